import PyProof.Rows.All
import Wide.All
import Wide.FinOn
import PyProof.EqAt
import PyProof.EqKinds
import PyProof.TupleCall
import PyProof.NeKinds
import PySem.Challenge.RW_lendrule_k23_whole_empty_along_a_way
import KE.KLam
import KE.KNestM
import KE.KSortedM
import KE.KFromBytes
import KE.KIsAll
import KE.KDictOf
import KE.KDictSum
import KE.KStateDown
set_option maxHeartbeats 0
set_option Elab.async false
set_option linter.all false
set_option maxRecDepth 100000
noncomputable section
section
open PySem PySem.Spec PyProof.Rows
def xQ:=@List.findIdx?_eq_some_iff_getElem
def pf:=@PyProof.Rows.slot_tuple_getitem
def KC:=@List.eraseIdx_eq_take_drop_succ
def KD:=@PyProof.Rows.callWith_builtin1
def DE:=@wpAny_typeNameOfWhole_keyiter
def mz:=@List.eq_nil_of_length_eq_zero
def KH:=@PySem.F.slot_dict_setdefault
def DF:=@F.slot_dict_keyiterator_next
def KI:=@F.args_tuple_iterator_next_1
def KJ:=@F.entry_tuple_iterator_next
def kA:=@PyProof.Rows.callWith_type1
def KN:=@wpAny_newFunctionEnv_cells
def sk:=@Array.perm_iff_toList_perm
def KO:=@Calls.Name_function_global
def xT:=@F.slot_tuple_iterator_next
def mB:=@List.getElem?_append_right
def ij:=@List.getElem?_append_left
def bW:=@List.getElem?_eq_some_iff
def DG:=@F.slot_tuple_getattribute
def su:=@Array.getElem?_eq_getElem
def ph:=@List.drop_eq_getElem_cons
def mD:=@List.getElem?_eq_none_iff
def DH:=@Calls.call_function_entry
def DI:=@wpAny_typeNameOf_keyiter
def DJ:=@PySem.F.args_tuple_add_2
def kB:=@AutoSeq1.wpAny_loadPart'
def b6:=@List.getElem?_eq_getElem
def DK:=@PySem.F.entry_tuple_add
def DL:=@decide_eq_false_iff_not
def DM:=@F.plain_set_update_loop
def xU:=@PySem.F.plainAttrs_list
def xV:=@List.getElem?_cons_succ
def jC:=@wpAny_callSpecial?_slot
def mE:=@Option.bind_eq_some_iff
def pj:=@List.take_of_length_le
def px:=@List.getElem?_set_self
def xW:=@Heap.get?_update_other
def DN:=@PySem.F.slot_tuple_add
def DO:=@Option.map_eq_none_iff
def mF:=@Option.map_eq_some_iff
def bj:=@Heap.get?_push_of_some
def DP:=@Nat.le_add_right_of_le
def xX:=@Obj.isFreed_of_fields
def kC:=@Heap.get?_update_self
def xY:=@List.take_append_drop
def xZ:=@List.perm_append_comm
def DQ:=@wpAny_notOrdered_dict
def mG:=@Array.getElem?_toList
def kD:=@List.getElem?_eq_none
def DR:=@builtinLookup_eq_fast
def dN:=@List.mem_append_right
def pz:=@List.mem_iff_getElem?
def DS:=@Obj.data_mapDictKeys
def dY:=@Bool.and_eq_true_iff
noncomputable def kF:=@List.getElem?_set_ne
def dc:=@List.mem_of_getElem?
def ik:=@List.mem_append_left
def aK:=@List.mem_cons_of_mem
def pC:=@Array.toList_extract
def DT:=@List.mem_of_mem_take
def sv:=@Around.under_plainId
def sx:=@List.pairwise_append
def DU:=@List.mem_iff_getElem
def de:=@Array.length_toList
def fV:=@beq_eq_false_iff_ne
def jD:=@Heap.SameBut.update
def eY:=@PySem.mem_of_lookup
def cx:=@Heap.get?_push_size
def sy:=@List.getElem?_range
def ya:=@List.filterMap_cons
def jE:=@Array.toList_append
def kG:=@Int.toNat_of_nonneg
def jF:=@Bool.false_eq_true
def yb:=@Array.size_extract
def aV:=@List.mem_singleton
def dv:=@Bool.false_ne_true
def kH:=@Obj.data_mapFields
def yc:=@List.pairwise_cons
def sE:=@List.mem_filterMap
def DV:=@List.Pairwise.drop
def DW:=@wpAny_pyIter_tuple
def aM:=@List.mem_cons_self
def kJ:=@wpAny_Call_Name_kw
def iV:=@Nat.lt_of_le_of_lt
def yd:=@Nat.pos_of_ne_zero
def aX:=@List.length_append
def sF:=@tupleKind_room_in1
def cb:=@Nat.lt_of_lt_of_le
def ye:=@Int.emod_lt_of_pos
def sH:=@Nat.lt_of_le_of_ne
def dw:=@of_decide_eq_true
def mH:=@List.map_inj_left
def yf:=@List.reverse_cons
def eZ:=@Int.toNat_natCast
def kK:=@decide_eq_true_eq
def DX:=@wpAny_pyIter_slot
def yg:=@Array.toList_push
def yh:=@Bool.not_eq_true'
def pE:=@List.nodup_append
def gS:=@List.flatMap_cons
def yi:=@Obj.cls_mapFields
def yj:=@Nat.lt_succ_of_lt
def DY:=@List.find?_append
def mI:=@wpAny_truthy_bool
def DZ:=@List.getElem?_inj
def D0:=@Option.isSome_map
def D1:=@List.take_add_one
def gy:=@wpAny_newObj_type
def sJ:=@wpAny_dictEntries
def b7:=@List.append_assoc
def D2:=@wpAny_pyIter_list
def bP:=@List.getElem?_map
def fA:=@List.size_toArray
def kM:=@wpAny_setState_of
def D3:=@List.reverse_perm
def fW:=@List.length_range
def sL:=@List.cons_append
def D4:=@noFill_tuple_add
def D5:=@Nat.lt_of_not_le
def yk:=@List.isEmpty_iff
def yl:=@Around.in1_units
def iW:=@List.length_take
def ym:=@wpAny_isInstance
def pF:=@Nat.le_of_not_lt
def il:=@List.all_eq_true
def D6:=@Option.getD_none
def aY:=@Bool.and_eq_true
def eE:=@List.not_mem_nil
def yn:=@List.length_drop
def D7:=@wpAny_askSetting
def fB:=@Nat.le_add_right
def yo:=@List.mem_reverse
def kO:=@List.lookup_cons
def aN:=@List.length_cons
def fX:=@wpAny_call_entry
def mJ:=@beq_self_eq_true
def D8:=@List.getElem_inj
def dO:=@Option.bind_some
def sM:=@List.drop_length
def sN:=@Nat.lt_succ_self
def eF:=@List.mem_flatMap
def D9:=@Nat.max_eq_right
def yp:=@List.length_nil
def bI:=@List.mem_append
def mK:=@decide_eq_false
def Ea:=@wpAny_ite_split
def yq:=@List.foldl_cons
def Eb:=@typeLookup_type
def cf:=@List.map_append
def yr:=@wpAny_execs_nil
def iX:=@List.nodup_cons
def ao:=@List.length_map
def yt:=@List.of_mem_zip
def cU:=@List.mem_filter
def mL:=@wpAny_passesOwn
def Ec:=@Nat.not_lt_zero
def gT:=@Option.map_some
def sO:=@List.length_set
def sP:=@List.find?_cons
def cD:=@Option.some.inj
def Ed:=@List.cons.injEq
def mM:=@Int.emod_nonneg
def eG:=@List.append_nil
def fE:=@List.nil_append
def pG:=@codeAny_builtin
def Ee:=@Bool.or_eq_true
def mN:=@wpAny_setField
def dD:=@List.mem_range
def pH:=@Heap.size_push
def mO:=@List.nodup_nil
def dE:=@decide_eq_true
def pK:=@Paired.length
def aO:=@List.map_cons
def yu:=@Bool.false_or
def gU:=@Nat.lt_irrefl
def sQ:=@wpAny_attempt
def yv:=@Bool.and_true
def yw:=@List.map_take
def sR:=@Nat.add_assoc
def ip:=@List.all_cons
def pM:=@Prod.mk.injEq
def yx:=@plainId_quiet
def dZ:=@wpAny_holding
def aU:=@List.mem_cons
def jG:=@List.any_cons
def bK:=@Nat.ne_of_lt
def dm:=@Int.le_trans
def pN:=@wpAny_typeOf
def bA:=@Nat.le_trans
def kP:=@codeAny_mono
def kQ:=@Int.le_of_lt
def bf:=@Heap.lt_size
def sS:=@Nat.ne_of_gt
def iY:=@Int.le_of_eq
def d8:=@Nat.zero_add
def d9:=@Nat.le_of_lt
def gW:=@Nat.le_of_eq
def pO:=@List.map_nil
def pP:=@Nat.lt_trans
def ei:=@wpS_forRange
def sU:=@Nat.add_zero
def mP:=@Int.zero_add
def aE:=@List.mem_map
def cy:=@List.map_map
def pQ:=@Int.le_refl
def dn:=@Nat.zero_le
def kR:=@wpAny_field
def yy:=@wpAny_of_eq
def sW:=@Nat.le_succ
def au:=@Nat.le_refl
def yz:=@sizeLine_eq
def bu:=@beq_iff_eq
def mQ:=@call_meets
def aj:=@wpAny_pure
def jH:=@wpAny_mono
def sX:=@wpAny_call
def ag:=@wpAny_bind
def gz:=@wpAny_rule
def gA:=@wpS_modify
def bh:=@eq_of_beq
def e9:=@or_false
def dq:=@congrArg
def ej:=@wpS_mono
def aA:=@wpS_pure
def kT:=@wpS_lift
def ak:=@wpS_bind
def fF:=@if_false
def fg:=@wpS_get
def dF:=@Ne.symm
def iZ:=@if_true
end
namespace PSh
end PSh
section
namespace L2
open PySem PySem.Spec PyProof.Rows
abbrev bE:=Sum Int Str
inductive V where
 | bM | bl (b:Bool) | int (i:Int) | str (x:Str) | Y1 (b:Array UInt8) | flt (b:UInt64) | ref (a:Addr) | ty (n:String)
 deriving DecidableEq
def RelV:V->Value->Prop
 | .bM,u=>u=Value.none
 | .bl b,u=>u=Value.bool b
 | .int i,u=>∃t,u=Value.int i t
 | .str x,u=>∃t,u=Value.str x t
 | .Y1 b,u=>∃t,u=Value.bytes b t
 | .flt b,u=>∃t,u=Value.float b t
 | .ref a,u=>u=Value.ref a
 | .ty n,u=>u=Value.type n
abbrev Vals:List V->List Value->Prop:=Paired RelV
noncomputable def kV:bE->V
 | .inl i=>.int i
 | .inr x=>.str x
inductive HO where
 /-- a list -/
 | lst (xs:List V)
 /-- a tuple (never acT) -/
 | aq (xs:List V)
 /-- a dict Te keys are ints and Zo;one Te keys are tuples of ints and Zo (Tf empty one is aif) -/
 | dK (kvs:List (bE×V)) | dT (xs:List (List bE×Addr×Value))
 /-- a set of ints: aI acU,aI size -/
 | set (S:Int->Bool) (n:Nat)
 /-- an instance of Tf class at C,aI dict at dx,aI UY -/
 | qu (C dx:Addr) (fs:List (Str×V))
 /-- Tf dict of Tf instance at x -/
 | own (x:Addr)
 /-- Tf dict of an Y2 -/
 | xd (fs:List (Str×V))
 /-- a bound method,f of x -/
 | met (f x:Addr)
 /-- a range KP lo,lo+1,.. below hi -/
 | rng (lo hi:Int)
 /-- a Zp aih is agz to Tf KP (Tf adU;a dict while a loop agA it): aii,never written while it is so -/
 | qw (o:Obj) (u:HO)
 /-- a code Zq table -/
 | Ef (q:Str)
 /-- any other Zp,by what is true of aI one KP (a def of agB own: aij a S n:=HO.ext λh=>..) -/
 | ext (φ:Heap->Prop)
abbrev Hp:=Addr->Option HO
def Rd(H:Hp)(a:Addr)(u:HO):Prop:=H a=some u\/∃o,H a=some (.qw o u)
noncomputable def dG:List Str:=["arrivals","empties","needs","held"]
def iG(K:W.Frag)(H:Hp)(a:Addr)(xs:List V):Prop :=
 Rd H a (.aq xs) \/
  ∃(o:Obj) (b:Array Value) (n:Nat),K.lookup a=some o/\o.cls=.type "tuple"/\o.data=.seq b n/\b.size<=sizeLine/\Vals xs b.toList
def lB(K:W.Frag)(H:Hp)(a:Addr)(xs:List V):Prop :=
 Rd H a (.lst xs)\/∃(b:List Value) (n:Nat),K.lookup a=some {cls:=.type "list",data:=.seq b.toArray n}/\b.length<=sizeLine/\Vals xs b
structure Ir (K:W.Frag) (C:Addr):Prop where
 pg:W.plainGet K C Str.empty=true
 hd:W.hasDictIn K C=true
 po:W.plainOver K C=true
 sa:W.findIn K (.ref C) "__setattr__"=some (some (.builtin "object.__setattr__"))
def jI(K:W.Frag)(C:Addr)(f:Str):Prop:=W.findIn K (.ref C) f=some none
section
variable {X:Cx} {CX:Kq} {k:Nat} {f C:Addr} {fd:FuncData} {ps:List Str} {sp:Sp} {Th:List V} {ds:List Value} {E:XK} {x m:Str} {p pos sY:Pos} {e o:Expr} {es:List Expr} {ta:TE} {t:TA}
structure Mk (K:W.Frag) (C f:Addr):Prop where
 makes:W.makesIn K C=true
 init:W.findIn K (.ref C) "__init__"=some (some (.ref f))
 fn:W.isFn K (.ref f)=true
 kp:W.keepIn K (.ref C)=true
end
structure dP (N P:List Str) (sc:Scope):Prop where
 kind:sc.kind=.function
 co:sc.isCoroutine=false
 gen:sc.isGenerator=false
 nd:N.Nodup
 pre:N.take P.length=P
 par:∀x∈P,sc.names.lookup x=some .local\/sc.names.lookup x=some .cell
 nofree:∀y∈sc.names,y.2≠.free
noncomputable def iK(s:Stmt):Arguments:=match s with
 | .FunctionDef _ a _ _ _ _ _ _ _ _=>a
 | _=>{posonlyargs:=[],args:=[],vararg:=none,kwonlyargs:=[],kw_defaults:=[],kwarg:=none,defaults:=[]}
def dz(s:Stmt):List Stmt:=match s with
 | .FunctionDef _ _ b _ _ _ _ _ _ _=>b
 | _=>[]
def az(s:Stmt):Scope:=match s with
 | .FunctionDef _ _ _ _ _ _ sc _ _ _=>sc
 | _=>{kind:=.function,names:=[],isGenerator:=false,isCoroutine:=false}
structure Eg (K:W.Frag) (x qual:Str) (st:Stmt) (f:Addr) (fd:FuncData):Prop where
 ex:∃(oc:Value) (od:Option Addr) (kV doc pm:Value) (an:Option Addr) (c8 ct:Value) (AK:Array (Option Value)),
  fd=W.fnOf x qual (iK st) (dz st) (az st) .none kV doc pm an c8 ct/\K.lookup f=some ⟨oc,od,.func fd,AK⟩/\W.codeIn K c8 qual=true
 kp:W.keepIn K (.ref f)=true
section
variable {P:Program} {w:World} {K:W.Frag} {mg:Str->Option Value} {base:Heap}
def KQ{st:Stmt}{g:Value}{h d:Option Addr}{i:Array (Option Value)}{kV a e b ct:Value}(l:K.lookup f=some ⟨g,h,.func (W.fnOf x qual (iK st) (dz st) (az st) .none kV a e d b ct),i⟩)
  (c:W.codeIn K b qual=true) (k:W.keepIn K (.ref f)=true):Eg K x qual st f (W.fnOf x qual (iK st) (dz st) (az st) .none kV a e d b ct):=⟨⟨g,h,kV,a,e,d,b,ct,i,rfl,l,c⟩,k⟩
end
section
variable {X:Cx} {ae:List (Addr×Obj)} {σ:St} {H:Hp} {s:Shared} {a b:Addr} {k:List bE} {v:V} {r:Value} {A:Around} {E:Value->Shared->Prop} {xs:List (List bE×Addr×Value)}
def fY(K:W.Frag)(H:Hp)(xs:List (List bE×Addr×Value)):Prop:=∀x∈xs,iG K H x.2.1 (x.1.map kV)
end
end L2
namespace L2.U
open PySem PySem.Spec PyProof.Rows
inductive Kd where
 | aq | lst | qu (C:Str) (ns:List Str) | fJ (t:Bool) (ks:List (List bE))
inductive PV where
 | bM | bl (b:Bool) | int (i:Int) | str (x:Str) | ref (n:Nat) | fn (x:Str) | nd (k:Kd) (ps:List PV)
noncomputable abbrev PV.aq (ps:List PV):PV:=.nd .aq ps
structure Fz where
 F:Hp
 μ:List Addr
def ClsAt(K:W.Frag)(C:Str)(a:Value):Prop:=W.nsIn K mainGlobals C=some (some a)
def lQ(K:W.Frag)(F H:Hp)(a:Addr)(x:Bool):Kd->List V->Prop
 | .aq,b=>x=false/\iG K H a b
 | .lst,b=>if x=true then H a=some (.lst b)else lB K H a b
 | .qu C ns,b=>∃d g fs,ClsAt K C (.ref d)/\Ir K d/\(∀f∈ns,jI K d f)/\H a=some (.qu d g fs)/\fs.map (·.1)=ns/\fs.map (·.2)=b
 | .fJ false ks,b=>∃c:List (bE×V),H a=some (.dK c)/\c.map (λy=>[y.1])=ks/\c.map (·.2)=b
 | .fJ true ks,b=>∃e,H a=some (.dT e)/\fY K F e/\e.map (·.1)=ks/\Vals b (e.map (·.2.2))
mutual
def bZ(K:W.Frag)(F:Fz):PV->V->Prop
 | .bM,v=>v=.bM
 | .bl b,v=>v=.bl b
 | .int i,v=>v=.int i
 | .str x,v=>v=.str x
 | .ref n,v=>∃a,F.μ[n]?=some a/\v=.ref a
 | .fn x,v=>∃a,v=.ref a/\W.nsIn K mainGlobals x=some (some (.ref a))
 | .nd k d,v=>∃a c,v=.ref a/\lQ K F.F F.F a false k c/\aG K F d c
def aG(K:W.Frag)(F:Fz):List PV->List V->Prop
 | [],a=>a=[]
 | p::b,a=>∃v r,a=v::r/\bZ K F p v/\aG K F b r
end
section
variable {K:W.Frag} {F F':Fz}
def aG.nil:aG K F [] []:=by simp[aG]
def aG.cons(h:bZ K F p v)(t:aG K F ps vs):aG K F (p::ps) (v::vs):=by
 simp only[aG];exact⟨v,vs,rfl,h,t⟩
def dA:bZ K F .bM v↔v=.bM:=by simp only[bZ]
def cj:bZ K F (.bl b) v↔v=.bl b:=by simp only[bZ]
def aH:bZ K F (.int i) v↔v=.int i:=by simp only[bZ]
def cZ:bZ K F (.str i) v↔v=.str i:=by simp only[bZ]
def jJ:bZ K F (.nd k ps) v↔∃a vs,v=.ref a/\lQ K F.F F.F a false k vs/\aG K F ps vs:=by simp only[bZ]
def cR:bZ K F (.aq ps) v↔∃a vs,v=.ref a/\iG K F.F a vs/\aG K F ps vs :=
 jJ.trans ⟨(by rintro⟨a,vs,b,c,d⟩;exact⟨a,vs,b,c.2,d⟩),(by rintro⟨a,vs,b,c,d⟩;exact⟨a,vs,b,⟨rfl,c⟩,d⟩)⟩
end
structure Pg where
 defs:List (Str×Stmt)
 cons:List (Str×PV):=[]
 dJ:List Str:=[]
 tabs:List (Str×List (Str×Str)):=[]
 cls:List (Str×Stmt):=[]
 flds:List Str:=[]
 pT:List Str:=[]
 Zr:List (Str×List (Str×Nat)):=[]
def params(st:Stmt):List Str:=(iK st).args.map λa=>a.arg
def Zs:NameKind->Bool
 | .local=>true
 | .cell=>true
 | _=>false
def cz(st:Stmt):List Str:=params st++((az st).names.filter λy=>Zs y.2&&!(params st).contains y.1).map λy=>y.1
structure KR (K:W.Frag) (x:Str) (st:Stmt):Prop where
 ex:∃f fd,W.nsIn K mainGlobals x=some (some (.ref f))/\Eg K x x st f fd/\∀us:List Value,us.length=(params st).length->bindArgs fd ⟨us,[]⟩=pure ((params st).zip us)
 sc:dP (cz st) (params st) (az st)
def Iu(K:W.Frag)(P:Params)(T:Str)(rows:List (Str×Str)):Prop :=
 ∃a b n,W.nsIn K mainGlobals T=some (some (.ref a))/\K.lookup a=some ⟨.type "dict",none,.dict b n,#[]⟩/\W.KeysLit P b.toList/\∀d∈rows,∃f,W.nsIn K a d.1=some (some (.ref f))/\W.nsIn K mainGlobals d.2=some (some (.ref f))
def adV{K:W.Frag}{P:Params}{T:Str}{rows:List (Str×Str)}{a:Addr}{b:Array DictEntry}{n:Nat}(h1:W.nsIn K mainGlobals T=some (some (.ref a)))(c:K.lookup a=some ⟨.type "dict",none,.dict b n,#[]⟩)(e:W.KeysLit P b.toList)
  (g:∀d∈rows,∃f,W.nsIn K a d.1=some (some (.ref f))/\W.nsIn K mainGlobals d.2=some (some (.ref f))):Iu K P T rows:=⟨a,b,n,h1,c,e,g⟩
noncomputable def Ti:PV->Value->Bool
 | .int i,.int j _=>i==j
 | .str x,.str y _=>x==y
 | .bl a,.bool b=>a==b
 | .bM,.none=>true
 | _,_=>false
def yA:List PV->List Value->Bool
 | [],[]=>true
 | p::r,u::q=>Ti p u&&yA r q
 | _,_=>false
def UZ{K:W.Frag}{p:PV}{u:Value}(h:Ti p u=true):∃v,RelV v u/\∀F,bZ K F p v:=by
 cases p<;>cases u<;>first | exact absurd h dv | skip
 ·exact⟨.bM,rfl,λF=>dA.mpr rfl⟩
 ·cases bh h;exact⟨.bl _,rfl,λF=>cj.mpr rfl⟩
 ·cases bh h;exact⟨.int _,⟨_,rfl⟩,λF=>aH.mpr rfl⟩
 ·cases bh h;exact⟨.str _,⟨_,rfl⟩,λF=>cZ.mpr rfl⟩
def Pb{K:W.Frag}{ps:List PV}{c:List Value}(h:yA ps c=true):∃vs,Vals vs c/\∀F,aG K F ps vs:=by
 induction ps generalizing c with
 | nil=>cases c;exact⟨[],.nil,λ_=>.nil⟩;cases h
 | cons p r ih =>
  cases c with
  | nil=>cases h
  | cons u q =>
   have h:=dY.mp h;obtain⟨v,a,b⟩:=UZ (K:=K) h.1;obtain⟨vs,d,e⟩:=ih h.2;exact⟨v::vs,.cons a d,λF=>.cons (b F) (e F)⟩
def Pc{K:W.Frag}{g:Addr}{x:Str}{a:Addr}{ps:List PV}{c:List Value}{n:Nat}{d:Option Addr}{e:Array (Option Value)}(h1:W.nsIn K g x=some (some (.ref a)))(f:K.lookup a=some ⟨.type "tuple",d,.seq c.toArray n,e⟩)(h:yA ps c=true)(i:c.length<=100) :
  ∃u v,W.nsIn K g x=some (some u)/\RelV v u/\∀F,bZ K F (.aq ps) v:=by
 obtain⟨j,r,b⟩:=Pb h;exact⟨_,.ref a,h1,rfl,λF=>cR.mpr ⟨a,j,rfl,.inr ⟨_,c.toArray,n,f,rfl,rfl,by rw[fA];exact bA i (by decide),by grind⟩,b F⟩⟩
def Pd{K:W.Frag}{g:Addr}{x:Str}{y:Str}{t:Tok}(a:W.nsIn K g x=some (some (.str y t))):∃u v,W.nsIn K g x=some (some u)/\RelV v u/\∀F,bZ K F (.str y) v:=⟨_,.str y,a,⟨t,rfl⟩,λF=>cZ.mpr rfl⟩
def Pe{K:W.Frag}{g:Addr}{x:Str}{i:Int}{t:Tok}(a:W.nsIn K g x=some (some (.int i t))):∃u v,W.nsIn K g x=some (some u)/\RelV v u/\∀F,bZ K F (.int i) v:=⟨_,.int i,a,⟨t,rfl⟩,λF=>aH.mpr rfl⟩
def U0(K:W.Frag)(C:Str)(st:Stmt)(a:List Str):Prop:=∃b f d,W.nsIn K mainGlobals C=some (some (.ref b))/\Mk K b f/\Ir K b/\(∀g∈a,jI K b g)/\Eg K "__init__" (C++".__init__") st f d/\(∀c:List Value,c.length=(params st).length->bindArgs d ⟨c,[]⟩=pure ((params st).zip c))/\dP (cz st) (params st) (az st)
def U1(K:W.Frag)(x:Str):Prop:=x∈dG/\∃c T,W.tabIn K x=some (c,T)/\W.codeHdIn K c T=true
def KU(K:W.Frag):Prop:=∃a o,W.nsIn K mainGlobals "__builtins__"=some (some (.ref a))/\a≠builtinsNs/\a≠mainGlobals/\K.lookup a=some o/\o.cls=.type "module"/\o.dict=some builtinsNs/\o.data=.plain
structure nC (K:W.Frag) (h:Heap):Prop where
 at_:∀x∈dG,∀c T,W.tabIn K x=some (c,T)->W.codeHdIn K c T=true/\h.get? T=some {cls:=.none,data:=.fields #[]}/\K.lookup T=none
 nd:(dG.filterMap λx=>(W.tabIn K x).map (·.2)).Nodup
def nC.keeps{K:W.Frag}{h h':Heap}(t:nC K h)(k:∀b o,h.get? b=some o->h'.get? b=some o):nC K h':=⟨λx a c T e=>let ⟨d,f,g⟩:=t.at_ x a c T e;⟨d,k _ _ f,g⟩,t.nd⟩
structure KW (P:Pg) (w:World) (K:W.Frag):Prop where
 hd:∀d∈P.defs,KR K d.1 d.2
 hc:∀d∈P.cons,∃u v,W.nsIn K mainGlobals d.1=some (some u)/\RelV v u/\∀F,bZ K F d.2 v
 hb:∀x∈P.dJ,W.nsIn K mainGlobals x=some none
 ht:∀d∈P.tabs,Iu K w.params d.1 d.2
 hcl:∀d∈P.cls,U0 K d.1 d.2 P.flds
 hlm:∀x∈P.pT,U1 K x
 hbm:P.pT≠[]->KU K
noncomputable def KY:Value->List Addr
 | .ref a=>[a]
 | _=>[]
def Gq:Option Obj->List Addr
 | some ⟨_,_,.dict a _,_⟩=>a.toList.flatMap λe=>KY e.val
 | some ⟨_,_,.func fd,_⟩=>KY fd.code
 | some ⟨_,_,.cls cd,_⟩=>cd.ns::cd.mro.flatMap KY
 | _=>[]
noncomputable def fragOf(h:Heap):List Addr->W.Frag
 | []=>[]
 | a::r=>match h.get? a with
  | some o=>(a,o)::fragOf h r
  | none=>fragOf h r
theorem pU(h:Heap):∀as:List Addr,(fragOf h as).In h
 | []=>λ_ _ e=>by cases e
 | a::r=>λb o e=>by
  unfold fragOf at e;split at e
  ·rename_i c ho;rw[kO]at e;cases z:b==a with
   | true =>
    rw[z]at e;cases e;rw[bh z];exact ho
   | false =>
    rw[z]at e;exact pU h r b o e
  ·exact pU h r b o e
def nsO:Option Obj->List Addr
 | some ⟨_,_,.cls cd,_⟩=>[cd.ns]
 | _=>[]
def adX(h:Heap)(a:Addr):List Addr:=a::(Gq (h.get? a)++(nsO (h.get? a)).flatMap λb=>(Gq (h.get? b)).flatMap λc=>c::Gq (h.get? c))
def fZ(h:Heap):W.Frag:=fragOf h (mainGlobals::(Gq (h.get? mainGlobals)).flatMap (adX h))
noncomputable def chFn(K:W.Frag)(x:Str):Option FuncData:=match W.nsIn K mainGlobals x with
 | some (some (.ref f))=>(match K.lookup f with
  | some ⟨_,_,.func fd,_⟩=>(match W.codeIn K fd.code x with
   | true=>some {fd with kwdefaults:=.none,doc:=.none,pyModule:=.none,annotations:=none,code:=.none,closureTuple:=.none}
   | false=>none)
  | _=>none)
 | _=>none
def j7(x:Str)(st:Stmt):FuncData:=W.fnOf x x (iK st) (dz st) (az st) .none .none .none .none none .none .none
def Pf{K:W.Frag}{x:Str}{st:Stmt}(h:chFn K x=some (j7 x st)):∃f a,W.nsIn K mainGlobals x=some (some (.ref f))/\Eg K x x st f a:=by
 unfold chFn at h;split at h
 ·rename_i f d;split at h
  ·rename_i v w a y c;split at h
   ·rename_i hc;have h:=cD h;obtain⟨B,C,D,E,H,I,J,L,M,e,g,i,j,k,l⟩:=a;unfold j7 at h;simp only[FuncData.mk.injEq]at h;obtain⟨e1,m,o,p,q,r,t,u,-,-,-,-,-,-,b⟩:=h;subst e1 m o p q r t u b;exact⟨f,_,d,KQ c hc (by unfold W.keepIn;dsimp only;rw[c])⟩
   ·cases h
  ·cases h
 ·cases h
def AX(K:W.Frag)(g:Addr)(d:Str×PV):Bool:=match W.nsIn K g d.1 with
 | some (some (.int j _))=>(match d.2 with | .int i=>i==j | _=>false)
 | some (some (.str y _))=>(match d.2 with | .str x=>x==y | _=>false)
 | some (some (.ref a))=>(match K.lookup a with
  | some ⟨.type t,_,.seq us _,_⟩=>(match d.2 with | .nd .aq b=>(t=="tuple")&&(yA b us.toList&&decide (us.toList.length<=100)) | _=>false)
  | _=>false)
 | _=>false
def KZ{K:W.Frag}{g:Addr}{x:Str}{p:PV}(h:AX K g (x,p)=true):∃u v,W.nsIn K g x=some (some u)/\RelV v u/\∀F,bZ K F p v:=by
 unfold AX at h;dsimp only at h
 split at h
 ·rename_i j t b;split at h
  ·obtain rfl:=bh h;exact Pe b
  ·cases h
 ·rename_i y t b;split at h
  ·obtain rfl:=bh h;exact Pd b
  ·cases h
 ·rename_i a b;split at h
  ·rename_i t k c n l d;split at h
   ·rw[aY,aY]at h;obtain⟨e,f,i⟩:=h;obtain rfl:=bh e;obtain⟨c⟩:=c;exact Pc b d f (dw i)
   ·cases h
  ·cases h
 ·cases h
def AY(K:W.Frag)(x:Str):Bool:=match W.nsIn K mainGlobals x with
 | some none=>true
 | _=>false
def K1{K:W.Frag}{x:Str}(h:AY K x=true):W.nsIn K mainGlobals x=some none:=by
 unfold AY at h;split at h
 ·assumption
 ·cases h
abbrev OV:=Option (Option Value)
noncomputable def K2(e:DictEntry):Option Str×Int:=(match e.key with
 | .str x _=>some x
 | _=>none,e.hash)
noncomputable def K3(K:W.Frag)(a:Addr)(d:Str×Str):Bool:=match W.nsIn K a d.1,W.nsIn K mainGlobals d.2 with
 | some (some (.ref f)),some (some (.ref g))=>f==g
 | _,_=>false
def AZ(K:W.Frag)(T:Str)(rows:List (Str×Str)):Option (Value×Option Addr×Array (Option Value)×List (Option Str×Int)×Bool):=match W.nsIn K mainGlobals T with
 | some (some (.ref a))=>(match K.lookup a with
  | some ⟨c,b,.dict d _,e⟩=>some (c,b,e,d.toList.map K2,rows.all (K3 K a))
  | _=>none)
 | _=>none
noncomputable def sZ(P:Params)(rows:List (Str×Str)):Option (Value×Option Addr×Array (Option Value)×List (Option Str×Int)×Bool):=some (.type "dict",none,#[],rows.map (λd=>(some d.1,PyData.keyHash P d.1)),true)
theorem A0{f:Type}{P:Params}:∀{a:List DictEntry} {rows:List (Str×f)},a.map K2=rows.map (λd=>(some d.1,PyData.keyHash P d.1))->W.KeysLit P a
 | [],_,_=>trivial
 | _::_,[],h=>by cases h
 | e::a,d::rows,h=>by
  rw[aO,aO,Ed]at h;obtain⟨b,g⟩:=h;refine⟨?_,A0 g⟩;unfold K2 at b;rw[pM]at b;obtain⟨c,i⟩:=b;split at c
  ·grind
  ·cases c
def K4{K:W.Frag}{a:Addr}{d:Str×Str}(h:K3 K a d=true):∃f,W.nsIn K a d.1=some (some (.ref f))/\W.nsIn K mainGlobals d.2=some (some (.ref f)):=by
 unfold K3 at h;split at h
 ·grind
 ·cases h
def K5{K:W.Frag}{P:Params}{T:Str}{rows:List (Str×Str)}(h:AZ K T rows=sZ P rows):Iu K P T rows:=by
 unfold AZ sZ at h;split at h
 ·rename_i a b;split at h
  ·rename_i c i j n k e;have h:=cD h;simp only[pM]at h;obtain⟨rfl,rfl,rfl,f,g⟩:=h;exact adV b e (A0 f) λd hd=>K4 (il.mp g d hd)
  ·cases h
 ·cases h
abbrev adZ:=Option (Value×Option Addr×Array (Option Value)×List (Option Str×Int)×Bool)
noncomputable def Eh(K:W.Frag)(f:Addr)(qual:Str):Option FuncData:=match K.lookup f with
 | some ⟨_,_,.func fd,_⟩=>(match W.codeIn K fd.code qual with
  | true=>some {fd with kwdefaults:=.none,doc:=.none,pyModule:=.none,annotations:=none,code:=.none,closureTuple:=.none}
  | false=>none)
 | _=>none
def K6(x qual:Str)(st:Stmt):FuncData:=W.fnOf x qual (iK st) (dz st) (az st) .none .none .none .none none .none .none
def Iv{K:W.Frag}{x qual:Str}{st:Stmt}{f:Addr}(h:Eh K f qual=some (K6 x qual st)):∃a,Eg K x qual st f a:=by
 unfold Eh at h;split at h
 ·rename_i u v a w c;split at h
  ·rename_i hc;have h:=cD h;obtain⟨y,B,C,D,E,H,I,J,L,d,e,g,i,j,k⟩:=a;unfold K6 at h;simp only[FuncData.mk.injEq]at h;obtain⟨e1,l,m,o,p,q,r,t,-,-,-,-,-,-,b⟩:=h;subst e1 l m o p q r t b;exact⟨_,KQ c hc (by unfold W.keepIn;dsimp only;rw[c])⟩
  ·cases h
 ·cases h
abbrev U2:=Option (Bool×OV×List OV×Option FuncData)
def A1(K:W.Frag)(b:List Str)(C:Str):U2:=match W.nsIn K mainGlobals C with
 | some (some (.ref a))=>(match W.findIn K (.ref a) "__init__" with
  | some (some (.ref f))=>some (W.makesIn K a&&(W.isFn K (.ref f)&&(W.keepIn K (.ref a)&&(W.plainGet K a Str.empty&&(W.hasDictIn K a&&W.plainOver K a)))),W.findIn K (.ref a) "__setattr__",b.map (λg=>W.findIn K (.ref a) g),Eh K f (C++".__init__"))
  | _=>none)
 | _=>none
def s9(a:List Str)(C:Str)(st:Stmt):U2:=some (true,some (some (.builtin "object.__setattr__")),a.map (λ_=>some none),some (K6 "__init__" (C++".__init__") st))
def yB:List Str->Bool
 | []=>true
 | x::r=>!r.contains x&&yB r
theorem wq:∀{l:List Str},yB l=true->l.Nodup
 | [],_=>mO
 | x::r,h=>by
  simp only[yB,aY,yh,List.contains_eq_mem,DL]at h;exact iX.mpr ⟨h.1,wq h.2⟩
def ad0:Option NameKind->Bool
 | some .local=>true
 | some .cell=>true
 | _=>false
def Zt:NameKind->Bool
 | .free=>false
 | _=>true
def Zu:ScopeKind->Bool
 | .function=>true
 | _=>false
def Ph(st:Stmt):Bool:=Zu (az st).kind&&(!(az st).isCoroutine&&(!(az st).isGenerator&&(yB (cz st)&&((params st).all (λx=>ad0 ((az st).names.lookup x))&&(az st).names.all λy=>Zt y.2))))
def K8{st:Stmt}(h:Ph st=true):dP (cz st) (params st) (az st):=by
 unfold Ph at h;rw[aY,aY,aY,aY,aY]at h;obtain⟨a,i,j,c,d,e⟩:=h;refine⟨?_,by grind,by grind,wq c,?_,λx f=>?_,λy g=>?_⟩
 ·cases z:(az st).kind<;>rw[z]at a<;>first | rfl | cases a
 ·exact List.take_left
 ·have k:=il.mp d x f;cases z:(az st).names.lookup x with
  | none=>rw[z]at k;cases k
  | some b =>
   rw[z]at k;cases b<;>first | exact .inl rfl | exact .inr rfl | cases k
 ·have k:=il.mp e y g;intro z;rw[z]at k;cases k
def Gs(P:Pg):Prop:=∀(kV a b:Value) (an:Option Addr) (c ct:Value) (u:Nat->Value),
 P.defs.map (λd=>bindArgs (W.fnOf d.1 d.1 (iK d.2) (dz d.2) (az d.2) .none kV a b an c ct) ⟨(List.range (params d.2).length).map u,[]⟩)=P.defs.map λd=>pure ((params d.2).zip ((List.range (params d.2).length).map u))
def A2{a:List Value}{n:Nat}(h:a.length=n):(List.range n).map (λi=>a.getD i .none)=a:=by
 subst h;apply List.ext_getElem
 ·simp
 ·intro i c b;simp[b]
def U3{K:W.Frag}{x:Str}{st:Stmt}{f:Addr}{c:FuncData}{P:Pg}(d:Gs P)(hd:(x,st)∈P.defs)(F:Eg K x x st f c)(a:List Value)(e:a.length=(params st).length):bindArgs c ⟨a,[]⟩=pure ((params st).zip a):=by
 obtain⟨l,m,kV,b,g,h,j,ct,o,rfl,p,q⟩:=F.ex;have k:=mH.mp (d kV b g h j ct λi=>a.getD i .none) (x,st) hd
 dsimp only at k
 rw[A2 e]at k;exact k
def Pk(P:Pg):Prop:=∀(kV a b:Value) (an:Option Addr) (c ct:Value) (u:Nat->Value),
 P.cls.map (λd=>bindArgs (W.fnOf "__init__" (d.1++".__init__") (iK d.2) (dz d.2) (az d.2) .none kV a b an c ct) ⟨(List.range (params d.2).length).map u,[]⟩)=P.cls.map λd=>pure ((params d.2).zip ((List.range (params d.2).length).map u))
def K9{K:W.Frag}{P:Pg}{C:Str}{st:Stmt}(U4:Ph st=true)(c:Pk P)(hd:(C,st)∈P.cls)(h:A1 K P.flds C=s9 P.flds C st):U0 K C st P.flds:=by
 unfold A1 s9 at h;split at h
 ·rename_i a d;split at h
  ·rename_i f e;have h:=cD h;simp only[pM,aY]at h;obtain⟨⟨j,l,m,o,p,q⟩,r,t,u⟩:=h;obtain⟨v,F⟩:=Iv u;refine⟨a,f,v,d,⟨j,e,l,m⟩,⟨o,p,q,r⟩,λg w=>mH.mp t g w,F,λx y=>?_,K8 U4⟩
   obtain⟨H,I,kV,b,B,D,E,ct,J,rfl,L,M⟩:=F.ex;have k:=mH.mp (c kV b B D E ct λi=>x.getD i .none) (C,st) hd
   dsimp only at k
   rw[A2 y]at k;exact k
  ·cases h
 ·cases h
noncomputable def Ei(K:W.Frag)(h:Heap)(x:Str):Bool:=match W.tabIn K x with
 | none=>true
 | some (c,T)=>W.codeHdIn K c T&&((K.lookup T).isNone&&(match h.get? T with
  | some ⟨.none,none,.fields a,b⟩=>a.isEmpty&&b.isEmpty
  | _=>false))
noncomputable def U5(K:W.Frag):Bool:=match W.nsIn K mainGlobals "__builtins__" with
 | some (some (.ref bm))=>!(bm==builtinsNs)&&(!(bm==mainGlobals)&&(match K.lookup bm with
  | some ⟨.type m,some d,.plain,_⟩=>(m=="module")&&(d==builtinsNs)
  | _=>false))
 | _=>false
def A3(P:Pg)(K:W.Frag)(h:Heap):Bool:=dG.all (Ei K h)&&(decide (dG.filterMap λx=>(W.tabIn K x).map (·.2)).Nodup&&((P.pT.isEmpty || U5 K)&&P.pT.all λx=>dG.contains x&&(W.tabIn K x).isSome))
def wt{K:W.Frag}{h:Heap}{x:Str}{c T:Addr}(e:Ei K h x=true)(t:W.tabIn K x=some (c,T)):W.codeHdIn K c T=true/\h.get? T=some {cls:=.none,data:=.fields #[]}/\K.lookup T=none:=by
 unfold Ei at e;rw[t]at e;simp only[aY]at e;obtain⟨b,d,a⟩:=e;refine⟨b,?_,by simpa using d⟩
 split at a
 ·grind
 ·cases a
def Pl{K:W.Frag}(e:U5 K=true):KU K:=by
 unfold U5 at e;split at e
 ·rename_i b c;simp only[aY]at e;obtain⟨f,g,a⟩:=e;split at a
  ·rename_i m d h z;rw[aY]at a;obtain rfl:=bh a.1;obtain rfl:=bh a.2;exact⟨b,_,c,by grind,by grind,z,rfl,rfl,rfl⟩
  ·cases a
 ·cases e
def La{P:Pg}{K:W.Frag}{h:Heap}(e:A3 P K h=true):nC K h/\(∀x∈P.pT,U1 K x)/\(P.pT≠[]->KU K):=by
 unfold A3 at e;simp only[aY]at e;obtain⟨f,g,i,j⟩:=e;have all:=il.mp f;refine⟨⟨λx a c T t=>wt (all x a) t,dw g⟩,λx a=>?_,λz=>?_⟩
 ·have:=il.mp j x a;rw[aY]at this;have b:x∈dG:=by grind
  cases t:W.tabIn K x with
  | none=>rw[t]at this;cases this.2
  | some d=>exact⟨b,d.1,d.2,t,(wt (all x b) t).1⟩
 ·rcases Bool.or_eq_true_iff.mp i with y | y
  ·grind
  ·exact Pl y
abbrev U6:=List (Option FuncData)×List (Option FuncData)×Bool×List adZ×List U2
def Ej(P:Pg)(K:W.Frag)(hp:Heap):U6:=((P.defs.take 26).map (λd=>chFn K d.1),(P.defs.drop 26).map (λd=>chFn K d.1),P.cons.all (AX K mainGlobals)&&(P.dJ.all (AY K)&&A3 P K hp),P.tabs.map (λd=>AZ K d.1 d.2),P.cls.map (λd=>A1 K P.flds d.1))
def El(P:Pg)(w:World):U6:=((P.defs.take 26).map (λd=>some (j7 d.1 d.2)),(P.defs.drop 26).map (λd=>some (j7 d.1 d.2)),true,P.tabs.map (λd=>sZ w.params d.2),P.cls.map (λd=>s9 P.flds d.1 d.2))
def Iw{P:Pg}{w:World}{K:W.Frag}(U4:P.defs.all (λd=>Ph d.2)=true)(Zv:Gs P)(Lb:P.cls.all (λd=>Ph d.2)=true)(Ld:Pk P){hp:Heap}(h:Ej P K hp=El P w):KW P w K/\nC K hp:=by
 unfold Ej El at h;simp only[pM]at h;obtain⟨e,g,b,i,j⟩:=h;rw[aY,aY]at b;obtain⟨k,l,m⟩:=La b.2.2;refine⟨⟨λd hd=>?_,λd hd=>KZ (il.mp b.1 d hd),λx o=>K1 (il.mp b.2.1 x o),λd hd=>K5 (mH.mp i d hd),λd hd=>K9 (il.mp Lb d hd) Ld hd (mH.mp j d hd),l,m⟩,k⟩
 obtain⟨f,p,a,F⟩:=Pf (by
  have c:=hd;rw[<-xY 26 P.defs]at c;rcases bI.mp c with z | z
  ·exact mH.mp e d z
  ·exact mH.mp g d z)
 exact⟨⟨f,p,a,F,λq r=>U3 Zv hd F q r⟩,K8 (il.mp U4 d hd)⟩
def jh{c d e:Type}{o:Option c}{f:c->d}{g:c->e}{a:d}{b:e}(h1:o.map f=some a)(h:o.map g=some b):o.map (λs=>(f s,g s))=some (a,b):=by
 cases o with
 | none=>cases h1
 | some s=>cases h1;cases h;rfl
def Pm(P:Pg)(U4:P.defs.all (λd=>Ph d.2)=true)(Zv:Gs P)(Lb:P.cls.all (λd=>Ph d.2)=true)(Ld:Pk P):W.Hook :=
 ⟨U6,λs=>Ej P (fZ s.heap) s.heap,λw=>El P w,λw h=>∃K:W.Frag,K.In h/\KW P w K/\nC K h,λw s e=>⟨_,pU _ _,Iw U4 Zv Lb Ld e⟩,λ_ _ _ ⟨K,a,b,c⟩ k=>⟨K,a.keeps k,b,c.keeps k⟩⟩
noncomputable def ji(p:Program)(c:String)(b:Bool)(N:Nat)(w:World):Option Shared:=(W.fencedOpening treeTable p w N).bind λa=>W.topFrom treeTable p (w.withFollow c b) N a
def Iy{p q:Program}{loose:List Str}{Xt:Shared->Bool}{c:Type}{Yf:Shared->c}{Ya:World->c}{N:Nat}{b:Bool}(a:String)
  (h1:∀w,(ji p a false N w).map (W.openSeen q loose (importedModules p.main.body) Xt b)=some (W.openGood q loose)) (j:∀w,(ji p a true N w).map (W.openSeen q loose (importedModules p.main.body) Xt b)=some (W.openGood q loose))
  (k:∀w,(ji p a false N w).map Yf=some (Ya (w.withFollow a false))) (l:∀w,(ji p a true N w).map Yf=some (Ya (w.withFollow a true))):W.LeftO p q loose Xt Yf Ya N b:=by
 refine W.LeftO.of_split a λw=>?_
 obtain⟨t,d,m⟩:=mF.mp (h1 w);obtain⟨u,e,b2⟩:=mF.mp (j w);obtain⟨v,f,o⟩:=mF.mp (k w);obtain⟨x,g,r⟩:=mF.mp (l w);rw[d]at f;rw[e]at g;cases f;cases g;obtain⟨y,h,tA⟩:=mE.mp d;obtain⟨B,i,tB⟩:=mE.mp e;rw[h]at i;cases i;rw[h,gT,tA,tB,gT,gT,m,b2,o,r]
end L2.U
namespace cu
open PySem L2 L2.U
noncomputable def top(i:Nat):Stmt:=PySem.Challenge.pw_lendrule_k23_whole_empty_along_a_way.main.body.getD i (.Pass ⟨0,0,0,0⟩)
noncomputable def jK:List (Str×Str):=[("put","put_acts"),("set","set_acts"),("fill","put_acts"),("copy","copy_acts"),("move","move_acts"),("drop","drop_acts"),("lend","lend_acts"),("sole","lend_acts"),("call","call_acts"),("if","if_acts"),("go","go_acts"),("say","say_acts"),("give","give_acts")]
def txt:Pg where
 defs:=([("leaves",5),("check_part",6),("part",7),("first",8),("is_copied",9),("kind_of",12),("is_holder",13),("shape_of",14),("spread",16),("tell_new",17),("row_nexts",28),("acts",29),("nexts",30),("come_to",31),("arrivals",32),("touched",33),("touches",34),("touch",35),("touch_whole",36),("at_acts",37),("operand_acts",38),("target_acts",39),("put_acts",40),("set_acts",41),("copy_acts",42),("move_acts",43),("drop_acts",44),("lend_acts",45),("call_acts",46),("arg_act",47),("owner_act",48),("if_acts",49),("go_acts",50),("say_acts",51),("give_acts",52),("empties",55),("empty_at_first",56),("emptied",57),("stays_empty",58),("fills",59),("_law_cell_at",61),("_law_mixed",62),("_law_names",63),("_law_shape",64),("_law_leaves",65),("_law_parts",66),("_law_lets",67),("_law_spots",68),("_law_numbers",69),("_law_operand",70),("_law_carried",71),("_law_lending",72),("_law_call",73),("_law_small_row",74),("_law_row",75),("_law_program",76),("_law_first",77),("_law_nexts",78),("_law_way",79),("_law_starts",80),("_law_touched",81),("_law_emptied",82),("_law_filled",83),("_law_at_first",84),("law",85)]:List (String×Nat)).map λd=>(d.1,top d.2)
 cons:=[("HOLDER_WORDS",.aq [(.str "lent"),(.str "sole")]),("ROW",.int 0),("ACT",.int 1),("NAME",.int 2),("THROUGH",.int 3),("FIRST",.int 4),("MANY",.int 5),("TAKER",.int 6),("REST",.aq [(.str "rest"),(.str ""),(.bl false),(.int 0),(.int 0),(.str "")]),("HAND",.aq [(.str "hand"),(.str ""),(.bl false),(.int 0),(.int 0),(.str "")])]
 dJ:=["dict","enumerate","int","isinstance","len","list","range","set","sorted","str","sum","tuple"]
 tabs:=[("MAKERS",jK)]
 cls:=[]
 flds:=[]
 pT:=["arrivals","empties"]
 Zr:=[("leaves",[("told",1)]),("spread",[("known",10),("told",1)]),("tell_new",[("known",10),("told",1)]),("acts",[("told",1)]),("nexts",[("firsts",1),("told",1)]),("call_acts",[("told",1)]),("empties",[("firsts",1)]),("empty_at_first",[("told",1),("[return]",1)]),("emptied",[("told",1)]),("_law_names",[("_law_named",1)]),("_law_lets",[("_law_lets_here",1)]),("_law_spots",[("_law_found",1)]),("_law_numbers",[("_law_found",1)]),("_law_call",[("_law_args",1)]),("_law_program",[("_law_params",1),("_law_heads",1)]),("_law_way",[("_law_way_here",1)]),("_law_starts",[("_law_starts_here",1)]),("_law_at_first",[("_law_empty",10),("[return]",10)]),("law",[("_law_known",10),("_law_empty",10)])]
section
end
theorem rE{b a c:Type}{E:Option b}{l:List a}{f:b->a->c}{g:a->c}(n:Nat)(h1:E.map (λs=>(l.take n).map (f s))=some ((l.take n).map g))(d:E.map (λs=>(l.drop n).map (f s))=some ((l.drop n).map g)):E.map (λs=>l.map (f s))=some (l.map g):=by
 cases E with
 | none=>cases h1
 | some s=>exact dq some (show l.map (f s)=l.map g by rw[<-xY n l,cf,cf,show(l.take n).map (f s)=_ from cD h1,show(l.drop n).map (f s)=_ from cD d])
theorem U4:txt.defs.all (λd=>Ph d.2)=true:=by kernel_rfl
theorem Zv:Gs txt:=by
 intro kV a b c d ct u;kernel_rfl
theorem Lb:txt.cls.all (λd=>Ph d.2)=true:=by kernel_rfl
theorem Ld:Pk txt:=by
 intro kV a b c d ct u;kernel_rfl
noncomputable def qv:Program:=W.view (W.OpenLaw.prog PySem.Challenge.rw_lendrule_k23_whole_empty_along_a_way) [85]
noncomputable def lo:List Str:=(W.OpenLaw.prog PySem.Challenge.rw_lendrule_k23_whole_empty_along_a_way).boundNames.filter (· != "law")
def Xt(s:Shared):Bool:=W.xlAt qv [] s&&W.recOk (W.RowW.records (W.OpenRow.toRowW (W.OpenLaw.row PySem.Challenge.rw_lendrule_k23_whole_empty_along_a_way))) s
abbrev hk:W.Hook:=Pm txt U4 Zv Lb Ld
theorem kq1(w:World):(ji (W.OpenLaw.prog PySem.Challenge.rw_lendrule_k23_whole_empty_along_a_way) "special-get-raises" false 5000 w).map (W.openSeen qv lo (importedModules (W.OpenLaw.prog PySem.Challenge.rw_lendrule_k23_whole_empty_along_a_way).main.body) Xt true)=some (W.openGood qv lo):=by kernel_rfl
theorem kq2(w:World):(ji (W.OpenLaw.prog PySem.Challenge.rw_lendrule_k23_whole_empty_along_a_way) "special-get-raises" true 5000 w).map (W.openSeen qv lo (importedModules (W.OpenLaw.prog PySem.Challenge.rw_lendrule_k23_whole_empty_along_a_way).main.body) Xt true)=some (W.openGood qv lo):=by kernel_rfl
theorem Zw(w:World):(ji (W.OpenLaw.prog PySem.Challenge.rw_lendrule_k23_whole_empty_along_a_way) "special-get-raises" false 5000 w).map (λs:Shared=>(txt.defs.take 26).map (λd=>chFn (fZ s.heap) d.1))=some ((txt.defs.take 26).map (λd=>some (j7 d.1 d.2))):=by kernel_rfl
theorem U7(w:World):(ji (W.OpenLaw.prog PySem.Challenge.rw_lendrule_k23_whole_empty_along_a_way) "special-get-raises" false 5000 w).map (λs:Shared=>((txt.defs.drop 26).take 15).map (λd=>chFn (fZ s.heap) d.1))=some (((txt.defs.drop 26).take 15).map (λd=>some (j7 d.1 d.2))):=by kernel_rfl
theorem U8(w:World):(ji (W.OpenLaw.prog PySem.Challenge.rw_lendrule_k23_whole_empty_along_a_way) "special-get-raises" false 5000 w).map (λs:Shared=>(((txt.defs.drop 26).drop 15).take 15).map (λd=>chFn (fZ s.heap) d.1))=some ((((txt.defs.drop 26).drop 15).take 15).map (λd=>some (j7 d.1 d.2))):=by kernel_rfl
theorem U9(w:World):(ji (W.OpenLaw.prog PySem.Challenge.rw_lendrule_k23_whole_empty_along_a_way) "special-get-raises" false 5000 w).map (λs:Shared=>(((txt.defs.drop 26).drop 15).drop 15).map (λd=>chFn (fZ s.heap) d.1))=some ((((txt.defs.drop 26).drop 15).drop 15).map (λd=>some (j7 d.1 d.2))):=by kernel_rfl
theorem Va(w:World):(ji (W.OpenLaw.prog PySem.Challenge.rw_lendrule_k23_whole_empty_along_a_way) "special-get-raises" false 5000 w).map (λs:Shared=>txt.cons.all (AX (fZ s.heap) mainGlobals)&&(txt.dJ.all (AY (fZ s.heap))&&A3 txt (fZ s.heap) s.heap))=some true:=by kernel_rfl
theorem Vb(w:World):(ji (W.OpenLaw.prog PySem.Challenge.rw_lendrule_k23_whole_empty_along_a_way) "special-get-raises" false 5000 w).map (λs:Shared=>(txt.tabs.map (λd=>AZ (fZ s.heap) d.1 d.2),txt.cls.map (λd=>A1 (fZ s.heap) txt.flds d.1)))=some (txt.tabs.map (λd=>sZ (w.withFollow "special-get-raises" false).params d.2),txt.cls.map (λd=>s9 txt.flds d.1 d.2)):=by kernel_rfl
theorem kq3(w:World):(ji (W.OpenLaw.prog PySem.Challenge.rw_lendrule_k23_whole_empty_along_a_way) "special-get-raises" false 5000 w).map (W.Hook.obs hk)=some (W.Hook.val hk (w.withFollow "special-get-raises" false)):=jh (Zw w) (jh (rE 15 (U7 w) (rE 15 (U8 w) (U9 w))) (jh (Va w) (Vb w)))
theorem Zx(w:World):(ji (W.OpenLaw.prog PySem.Challenge.rw_lendrule_k23_whole_empty_along_a_way) "special-get-raises" true 5000 w).map (λs:Shared=>(txt.defs.take 26).map (λd=>chFn (fZ s.heap) d.1))=some ((txt.defs.take 26).map (λd=>some (j7 d.1 d.2))):=by kernel_rfl
theorem Vc(w:World):(ji (W.OpenLaw.prog PySem.Challenge.rw_lendrule_k23_whole_empty_along_a_way) "special-get-raises" true 5000 w).map (λs:Shared=>((txt.defs.drop 26).take 15).map (λd=>chFn (fZ s.heap) d.1))=some (((txt.defs.drop 26).take 15).map (λd=>some (j7 d.1 d.2))):=by kernel_rfl
theorem Vd(w:World):(ji (W.OpenLaw.prog PySem.Challenge.rw_lendrule_k23_whole_empty_along_a_way) "special-get-raises" true 5000 w).map (λs:Shared=>(((txt.defs.drop 26).drop 15).take 15).map (λd=>chFn (fZ s.heap) d.1))=some ((((txt.defs.drop 26).drop 15).take 15).map (λd=>some (j7 d.1 d.2))):=by kernel_rfl
theorem Ve(w:World):(ji (W.OpenLaw.prog PySem.Challenge.rw_lendrule_k23_whole_empty_along_a_way) "special-get-raises" true 5000 w).map (λs:Shared=>(((txt.defs.drop 26).drop 15).drop 15).map (λd=>chFn (fZ s.heap) d.1))=some ((((txt.defs.drop 26).drop 15).drop 15).map (λd=>some (j7 d.1 d.2))):=by kernel_rfl
theorem Vf(w:World):(ji (W.OpenLaw.prog PySem.Challenge.rw_lendrule_k23_whole_empty_along_a_way) "special-get-raises" true 5000 w).map (λs:Shared=>txt.cons.all (AX (fZ s.heap) mainGlobals)&&(txt.dJ.all (AY (fZ s.heap))&&A3 txt (fZ s.heap) s.heap))=some true:=by kernel_rfl
theorem Vg(w:World):(ji (W.OpenLaw.prog PySem.Challenge.rw_lendrule_k23_whole_empty_along_a_way) "special-get-raises" true 5000 w).map (λs:Shared=>(txt.tabs.map (λd=>AZ (fZ s.heap) d.1 d.2),txt.cls.map (λd=>A1 (fZ s.heap) txt.flds d.1)))=some (txt.tabs.map (λd=>sZ (w.withFollow "special-get-raises" true).params d.2),txt.cls.map (λd=>s9 txt.flds d.1 d.2)):=by kernel_rfl
theorem kq4(w:World):(ji (W.OpenLaw.prog PySem.Challenge.rw_lendrule_k23_whole_empty_along_a_way) "special-get-raises" true 5000 w).map (W.Hook.obs hk)=some (W.Hook.val hk (w.withFollow "special-get-raises" true)):=jh (Zx w) (jh (rE 15 (Vc w) (rE 15 (Vd w) (Ve w))) (jh (Vf w) (Vg w)))
theorem ws:W.OpenLaw.wellSaid PySem.Challenge.rw_lendrule_k23_whole_empty_along_a_way=true:=by kernel_rfl
end cu
open PySem PySem.W PyProof.Rows PySem.Calls
set_option maxRecDepth 100000 in
set_option maxHeartbeats 0 in
theorem cu.fin(hc:∀d:DefRec,d.name="law"->d.params.defaults=[]->W.WalkO cu.qv cu.lo (XL cu.qv []) (Hook.says cu.hk) (W.OpenRow.toRowW (W.OpenLaw.row PySem.Challenge.rw_lendrule_k23_whole_empty_along_a_way)) d [] (λf vs=>PySem.call f vs)):PySem.Challenge.rw_lendrule_k23_whole_empty_along_a_way.Holds:=by
 w_on;refine W.holds_law cu.ws λa=>?_
 refine W.holds_open (q:=cu.qv) (loose:=cu.lo) (Xt:=cu.Xt) (XP:=XL cu.qv []) (Yf:=Hook.obs cu.hk) (Ya:=Hook.val cu.hk) (YP:=Hook.says cu.hk) (N:=5000) (L2.U.Iy "special-get-raises" cu.kq1 cu.kq2 cu.kq3 cu.kq4) (Hook.of _) (Hook.keeps _) (λs e=>xl_of s (dY.mp e).1) XL.keeps (by rfl) (by rfl) (by rfl) (λs e=>recFacts_of (dY.mp e).2) (by rfl) (by first | assumption | decide +kernel) (by decide +kernel) ⟨rfl,rfl,rfl,rfl,rfl,by decide +kernel⟩ ?hw (hc _ rfl rfl)
 case hw=>w_witness2
end
namespace L2
open PySem PySem.Spec PyProof.Rows
noncomputable def wu:bE->Value->Bool
 | .inl k,v=>Value.isInt k v
 | .inr x,v=>Value.isStrOf x v
def ad1(w:World):bE->Int
 | .inl k=>hashInt k
 | .inr x=>hashStr w x
theorem du:∀{k:bE} {v:Value},wu k v=true->(∃i t,k=Sum.inl i/\v=Value.int i t)\/(∃x t,k=Sum.inr x/\v=Value.str x t)
 | .inl i,v,h=>by
  obtain⟨t,e⟩:=Value.isInt_shape h;exact .inl ⟨i,t,rfl,e⟩
 | .inr x,v,h=>by
  obtain⟨t,e⟩:=Value.isStrOf_shape h;exact .inr ⟨x,t,rfl,e⟩
def Iz(i:Int)(t:Tok):wu (.inl i) (.int i t)=true:=by simp[wu,Value.isInt]
def IA(x:Str)(t:Tok):wu (.inr x) (.str x t)=true:=by simp[wu,Value.isStrOf]
def Vh(a b:Int):decide ((Sum.inl a:bE)=Sum.inl b)=(a==b):=by
 grind
def Vi(a b:Str):decide ((Sum.inr a:bE)=Sum.inr b)=decide (a=b):=by
 grind
def Vj(a:Int)(b:Str):decide ((Sum.inl a:bE)=Sum.inr b)=false:=by grind
def Vk(a:Str)(b:Int):decide ((Sum.inr a:bE)=Sum.inl b)=false:=by grind
def cB(prog:Program)(w:World):PySem.KeyKind prog w bE where
 is:=wu
 hash:=ad1 w
 inj:=λv a b f d=>by
  rcases du f with⟨i,t,rfl,rfl⟩ | ⟨x,t,rfl,rfl⟩
  ·rcases du d with⟨j,u,rfl,e⟩ | ⟨y,u,rfl,e⟩
   ·injection e with e1 _;rw[e1]
   ·exact nomatch e
  ·rcases du d with⟨j,u,rfl,e⟩ | ⟨y,u,rfl,e⟩
   ·exact nomatch e
   ·injection e with e1 _;rw[e1]
 byValue:=λk v h=>by
  rcases du h with⟨i,t,rfl,rfl⟩ | ⟨x,t,rfl,rfl⟩<;>rfl
 pyHash:=λc h=>by
  rcases du c with⟨i,t,rfl,rfl⟩ | ⟨x,t,rfl,rfl⟩
  ·exact wpAny_pyHash_int h
  ·exact wpAny_pyHash_str h
 eqBool:=λg c h=>by
  rcases du g with⟨i,t,rfl,rfl⟩ | ⟨x,t,rfl,rfl⟩
  ·rcases du c with⟨j,u,rfl,rfl⟩ | ⟨y,u,rfl,rfl⟩
   ·rw[Vh]at h;exact wpAny_eqBool_int h
   ·rw[Vj]at h;exact SeqAt.EqAt.int_str i t y u _ _ _ _ h
  ·rcases du c with⟨j,u,rfl,rfl⟩ | ⟨y,u,rfl,rfl⟩
   ·rw[Vk]at h;exact SeqAt.EqAt.str_int x t j u _ _ _ _ h
   ·rw[Vi]at h;exact wpAny_eqBool_str h
 «strs» := λk x t v h=>by
  rcases du h with⟨i,u,rfl,e⟩ | ⟨y,u,rfl,e⟩
  ·exact nomatch e
  ·injection e with e1 _
   subst e1;cases v<;>rfl
def A4(prog:Program)(w:World)(i:Int)(t:Tok):(cB prog w).is (.inl i) (.int i t)=true:=Iz i t
def A5(prog:Program)(w:World)(x:Str)(t:Tok):(cB prog w).is (.inr x) (.str x t)=true:=IA x t
def Vals.length(r:Vals xs us):xs.length=us.length:=pK r
theorem Vals.get:∀{xs:List V} {us:List Value} {i:Nat} {x:V},Vals xs us->xs[i]?=some x->∃u,us[i]?=some u/\RelV x u
 | _,_,_,_,.nil,e=>by simp at e
 | _,_,0,_,.cons r _,e=>by grind
 | _,_,i+1,x,.cons _ t,e=>by
  obtain⟨u,b,a⟩:=Vals.get t (by simpa using e)
  exact⟨u,by grind,a⟩
theorem Vals.set(r:RelV x u):∀{xs:List V} {us:List Value} (i:Nat),Vals xs us->Vals (xs.set i x) (us.set i u)
 | _,_,_,.nil=>.nil
 | _,_,0,.cons _ t=>.cons r t
 | _,_,i+1,.cons q t=>.cons q (Vals.set r i t)
theorem Vals.append:∀{xs a:List V} {us ws:List Value},Vals xs us->Vals a ws->Vals (xs++a) (us++ws)
 | _,_,_,_,.nil,s=>s
 | _,_,_,_,.cons r t,s=>.cons r (Vals.append t s)
theorem Vals.take:∀{xs:List V} {us:List Value} (n:Nat),Vals xs us->Vals (xs.take n) (us.take n)
 | _,_,0,_=>.nil
 | _,_,_+1,.nil=>.nil
 | _,_,n+1,.cons r t=>.cons r (Vals.take n t)
theorem Vals.drop:∀{xs:List V} {us:List Value} (n:Nat),Vals xs us->Vals (xs.drop n) (us.drop n)
 | _,_,0,r=>r
 | _,_,_+1,.nil=>.nil
 | _,_,n+1,.cons _ t=>Vals.drop n t
def td:Option V->Option Value->Prop
 | some v,some u=>RelV v u
 | none,none=>True
 | _,_=>False
def KV{a:Type}:List (a×V)->List (a×Value)->Prop:=Paired fun(p:a×V) (q:a×Value)=>p.1=q.1/\RelV p.2 q.2
noncomputable def cC(H:Hp)(a:Addr)(o:HO):Hp:=λb=>if b=a then some o else H b
def aF:cC H a o a=some o:=by unfold cC;rw[if_pos rfl]
def aJ(h:b≠a):cC H a o b=H b:=by unfold cC;rw[if_neg h]
def b8{H:Hp}{a b:Addr}{o:HO}(h:H a=some o)(h':H b=none):a≠b:=by
 grind
section
variable (P:Program) (w:World)
def gw(H:Hp)(h:Heap)(a:Addr):HO->Prop
 | .lst xs=>xs.length<=sizeLine/\∃(d:List Value) (n:Nat),Vals xs d/\h.get? a=some {cls:=.type "list",data:=.seq d.toArray n}
 | .aq xs=>xs.length<=sizeLine/\∃d:List Value,Vals xs d/\IsTup h a d.toArray
 | .dK e=>e.length<=sizeLine/\(a==sysModules)=false/\∃g,KV e g/\h.DictOf (cB P w) a g
 | .dT xs=>xs.length<=sizeLine/\(a==sysModules)=false/\∃o l B,h.get? a=some o/\o.ExactDict/\o.data=.dict l B/\l.toList=xs.map (entryOfKey (tupleKind (cB P w)))/\(xs.map (·.1)).Nodup
 | .set S n=>h.SetOf (intKind P w) a S n
 | .qu C i fs=>H i=some (.own a)/\fs.length<=1000/\i≠a/\h.get? a=some (W.instObj C i) /\
   ∃b,h.Ns1 i b/\(∀f,td (fs.lookup f) (b f))/\PySem.Within b (fs.map (·.1))
 | .own _=>∃o,h.get? a=some o
 | .xd fs=>∃b,h.Ns1 a b/\∀f,td (fs.lookup f) (b f)
 | .rng lo D=>∃t u v,h.get? a=some {cls:=.type "range",data:=.fields #[.int lo t,.int D u,.int 1 v]}
 | .qw o u=>h.get? a=some o/\gw H h a u
 | .Ef q=>∃j:Array Value,h.get? a=some {cls:=.none,data:=.fields j}/\TriplesOk j.toList/\∀(pos:Pos) (m:Value),codeAmong pos j.toList=some m ->
   ∃(c:Addr) (p:Obj) (u:HO) (g:Array Value) (t:Tok),m=.ref c/\H c=some (.qw p u)/\p.data=.fields g/\g[1]?=some (.str q t)
 | .met f x=>h.get? a=some (W.methodObj (.ref f) (.ref x))
 | .ext k=>k h/\(∃o,h.get? a=some o)/\∀r y:Heap,k r->(∀o,r.get? a=some o->y.get? a=some o)->k y
def mR(H:Hp)(h:Heap):Prop:=∀a o,H a=some o->gw P w H h a o
end
section
variable {P:Program} {w:World} {H H':Hp} {h h':Heap} {a:Addr} {o:HO}
def gw.lt(x:gw P w H h a o):a<h.objs.size:=by
 cases o with
 | lst xs=>obtain⟨_,_,_,_,e⟩:=x;exact bf e
 | aq xs=>obtain⟨_,_,_,p⟩:=x;exact p.lt
 | dK b=>obtain⟨_,_,_,_,o,_,_,e,_⟩:=x;exact bf e
 | dT b=>obtain⟨_,_,o,_,_,e,_⟩:=x;exact bf e
 | set S n=>obtain⟨o,_,_,_,e,_⟩:=x;exact bf e
 | qu C c fs=>obtain⟨_,_,_,e,_⟩:=x;exact bf e
 | own y=>obtain⟨_,e⟩:=x;exact bf e
 | xd fs=>obtain⟨_,⟨_,_,_,e,_⟩,_⟩:=x;exact bf e
 | rng lo d=>obtain⟨_,_,_,e⟩:=x;exact bf e
 | qw g u=>obtain⟨e,_⟩:=x;exact bf e
 | Ef q=>obtain⟨_,e,_⟩:=x;exact bf e
 | met f y=>exact bf (x)
 | ext i=>obtain⟨_,⟨_,e⟩,_⟩:=x;exact bf e
def gw.yD(x:gw P w H h a o)(k:∀b u,(b=a\/H b=some (.own a))->h.get? b=some u->h'.get? b=some u)
  (ho:∀b,H b=some (.own a)->H' b=some (.own a)) (ht:∀b xs,H b=some (.aq xs)->H' b=some (.aq xs)) (hz:∀b g u,H b=some (.qw g u)->H' b=some (.qw g u)):gw P w H' h' a o:=by
 induction o with
 | lst xs=>obtain⟨z,l,n,r,e⟩:=x;exact⟨z,l,n,r,k _ _ (.inl rfl) e⟩
 | aq xs=>obtain⟨z,l,r,g,e,c⟩:=x;exact⟨z,l,r,g,k _ _ (.inl rfl) e,c⟩
 | dK m=>obtain⟨z,y,B,r,g,i,j,e,c⟩:=x;exact⟨z,y,B,r,g,i,j,k _ _ (.inl rfl) e,c⟩
 | dT m=>obtain⟨z,y,g,i,j,e,c⟩:=x;exact⟨z,y,g,i,j,k _ _ (.inl rfl) e,c⟩
 | set S n=>obtain⟨g,i,j,t,e,c⟩:=x;exact⟨g,i,j,t,k _ _ (.inl rfl) e,c⟩
 | qu C Y fs =>
  obtain⟨d,z,ne,e,D,⟨E,i,j,J,c⟩,r⟩:=x;exact⟨ho _ d,z,ne,k _ _ (.inl rfl) e,D,⟨E,i,j,k _ _ (.inr d) J,c⟩,r⟩
 | own y=>obtain⟨g,e⟩:=x;exact⟨g,k _ _ (.inl rfl) e⟩
 | xd fs=>obtain⟨D,⟨E,i,j,e,c⟩,r⟩:=x;exact⟨D,⟨E,i,j,k _ _ (.inl rfl) e,c⟩,r⟩
 | rng lo Z=>obtain⟨t,u,v,e⟩:=x;exact⟨t,u,v,k _ _ (.inl rfl) e⟩
 | qw g u ih=>obtain⟨e,q⟩:=x;exact⟨k _ _ (.inl rfl) e,ih q⟩
 | Ef q =>
  obtain⟨L,e,t,c⟩:=x;exact⟨L,k _ _ (.inl rfl) e,t,λpos M z=>let ⟨c,N,u,B,Q,R,T,X⟩:=c pos M z;⟨c,N,u,B,Q,R,hz _ _ _ T,X⟩⟩
 | met f y =>
  have e:=x;exact k a _ (.inl rfl) e
 | ext φ=>obtain⟨p,⟨o,e⟩,I⟩:=x;exact⟨I _ _ p λo q=>k _ _ (.inl rfl) q,⟨o,k _ _ (.inl rfl) e⟩,I⟩
def mR.lt(x:mR P w H h)(e:H a=some o):a<h.objs.size:=(x a o e).lt
def mR.fresh(x:mR P w H h)(e:h.objs.size<=a):H a=none:=by
 cases q:H a with
 | none=>rfl
 | some u=>exact absurd (cb (x.lt q) e) (gU _)
def mR.kept(x:mR P w H h)(k:∀b u,h.get? b=some u->h'.get? b=some u):mR P w H h':=λa o e =>
 (x a o e).yD (λb u _ q=>k b u q) (λ_ q=>q) (λ_ _ q=>q) λ_ _ _ q=>q
def mR.laid(x:mR P w H h)(k:∀b u,h.get? b=some u->h'.get? b=some u)(hp:h.objs.size<=a)(d:gw P w (cC H a o) h' a o):mR P w (cC H a o) h':=λb u e=>by
 have f:=x.fresh hp;by_cases g:b=a
 ·subst g;rw[aF]at e;cases e;exact d
 ·rw[aJ g]at e;exact(x b u e).yD (λc v _ q=>k c v q) (λc q=>by rw[aJ (b8 q f)];exact q) (λc i q=>by rw[aJ (b8 q f)];exact q) λc j v q=>by rw[aJ (b8 q f)];exact q
end
def Rd.ok(r:Rd H a u)(x:mR P w H h):gw P w H h a u:=by
 rcases r with r | ⟨o,r⟩
 ·exact x a u r
 ·obtain⟨_,q⟩:=x a _ r;exact q
def Mut:Option HO->Prop
 | some (.lst _)=>True
 | some (.dK _)=>True
 | some (.dT _)=>True
 | some (.set _ _)=>True
 | some (.qu _ _ _)=>True
 | some (.ext _)=>True
 | _=>False
section
variable {P:Program} {w:World} {H:Hp} {h h':Heap} {x e:Addr} {o':HO}
def mR.write(ok:mR P w H h)(a:Mut (H x))(he:e=x\/H e=some (.own x))(k:∀b u,b≠e->h.get? b=some u->h'.get? b=some u)(t:∃u,h'.get? e=some u)
  (j:gw P w (cC H x o') h' x o'):mR P w (cC H x o') h':=λb u q=>by
 have o:∀c y,H c=some (.own y)->c≠x:=λc y r z=>by subst z;rw[r]at a;exact a
 have l:∀c d,H c=some (.aq d)->c≠x:=λc d r z=>by subst z;rw[r]at a;exact a
 have m:∀c f v,H c=some (.qw f v)->c≠x:=λc f v r z=>by subst z;rw[r]at a;exact a
 by_cases g:b=x
 ·subst g;rw[aF]at q;cases q;exact j
 ·rw[aJ g]at q;by_cases i:b=e
  ·have p:H b=some (.own x):=by
    rcases he with z | z
    ·exact absurd (i.trans z) g
    ·rw[i];exact z
   rw[q]at p;cases p;obtain⟨v,B⟩:=t;exact⟨v,by rw[i];exact B⟩
  ·refine(ok b u q).yD (λc v hc r=>k c v ?_ r) (λc r=>by rw[aJ (o c b r)];exact r) (λc d r=>by rw[aJ (l c d r)];exact r) λc f v r=>by rw[aJ (m c f v r)];exact r
   rcases hc with rfl | hc
   ·exact i
   ·rintro rfl
    rcases he with z | z
    ·exact o c b hc z
    ·rw[hc]at z;cases z;exact g rfl
end
structure Un (fs ex:List Addr) (H H':Hp) (h h':Heap):Prop where
 keep:∀b o,h.get? b=some o->H b=none->b∉fs->b∉ex->h'.get? b=some o
 slot:∀b o,h.get? b=some o->H b=none->b∈fs->b∉ex->∃sl,h'.get? b=some {o with slots:=sl}
 free:∀b o,h.get? b=some o->H b=none->b∉ex->H' b=none
 there:∀b o,h.get? b=some o->b∉ex->∃o',h'.get? b=some o'
 tups:∀b xs,H b=some (.aq xs)->H' b=some (.aq xs)
 frzs:∀b o u,H b=some (.qw o u)->H' b=some (.qw o u)
 tbls:∀b q,H b=some (.Ef q)->H' b=some (.Ef q)
section
variable {fs Vm ex ex':List Addr} {H H1 H2:Hp} {h h1 h2 h':Heap} {a x e:Addr} {o:HO}
def Un.any(u:Un fs ex H H1 h h1)(q:h.get? b=some c)(n:H b=none)(d:b∉ex):∃g,h1.get? b=some {c with slots:=g}:=by
 by_cases f:b∈fs
 ·exact u.slot b c q n f d
 ·exact⟨c.slots,u.keep b c q n f d⟩
def Un.trans(a:Un fs ex H H1 h h1)(b:Un fs ex H1 H2 h1 h2):Un fs ex H H2 h h2 where
 keep:=λc d q n hc f=>b.keep c d (a.keep c d q n hc f) (a.free c d q n f) hc f
 slot:=λc d q n hc f=>by
  obtain⟨l,e1⟩:=a.slot c d q n hc f;obtain⟨j,k⟩:=b.slot c _ e1 (a.free c d q n f) hc f;exact⟨j,k⟩
 free:=λc d q n f=>by
  obtain⟨i,e1⟩:=a.there c d q f;exact b.free c i e1 (a.free c d q n f) f
 there:=λc d q f=>by
  obtain⟨i,e1⟩:=a.there c d q f;exact b.there c i e1 f
 tups:=λc g q=>b.tups c g (a.tups c g q)
 frzs:=λc d g q=>b.frzs c d g (a.frzs c d g q)
 tbls:=λc q e=>b.tbls c q (a.tbls c q e)
def Un.kept(k:∀b u,h.get? b=some u->h'.get? b=some u):Un fs ex H H h h' :=
 ⟨λb c q _ _ _=>k b c q,λb c q _ _ _=>⟨c.slots,k b c q⟩,λ_ _ _ n _=>n,λb c q _=>⟨c,k b c q⟩,λ_ _ q=>q,λ_ _ _ q=>q,λ_ _ q=>q⟩
def Un.refl:Un fs ex H H h h:=Un.kept λ_ _ q=>q
def Un.laid(k:∀b u,h.get? b=some u->h'.get? b=some u)(hp:h.objs.size<=a)(c:H a=none):Un fs ex H (cC H a o) h h' where
 keep:=λb u q _ _ _=>k b u q
 slot:=λb u q _ _ _=>⟨u.slots,k b u q⟩
 free:=λb u q n _=>by rw[aJ (bK (cb (bf q) hp))];exact n
 there:=λb u q _=>⟨u,k b u q⟩
 tups:=λb d q=>by rw[aJ (b8 q c)];exact q
 frzs:=λb u d q=>by rw[aJ (b8 q c)];exact q
 tbls:=λb f q=>by rw[aJ (b8 q c)];exact q
def Un.write(c:Mut (H x))(he:e=x\/H e=some (.own x))(k:∀b u,b≠e->h.get? b=some u->h'.get? b=some u)(j:∃u,h'.get? e=some u):Un fs ex H (cC H x o) h h':=by
 have f:∀b,H b=none->b≠x:=λb n z=>by subst z;rw[n]at c;exact c
 have g:∀b,H b=none->b≠e:=λb n z=>by
  subst z;rcases he with r | r
  ·exact f b n r
  ·rw[n]at r;cases r
 have d:∀b u,H b=some u->¬Mut (some u)->b≠x:=λb u q nm z=>by subst z;rw[q]at c;exact nm c
 refine⟨λb u q n _ _=>k b u (g b n) q,λb u q n _ _=>⟨u.slots,k b u (g b n) q⟩,λb u q n _=>by rw[aJ (f b n)];exact n,λb u q _=>?_,
  λb l q=>by rw[aJ (d b _ q λz=>z)];exact q,λb u l q=>by rw[aJ (d b _ q λz=>z)];exact q,λb m q=>by rw[aJ (d b _ q λz=>z)];exact q⟩
 by_cases i:b=e
 ·subst i;exact j
 ·exact⟨u,k b u i q⟩
end
noncomputable def trk(h:Heap)(H:Hp):List Addr:=(List.range h.objs.size).filter λa=>(H a).isSome
def A6(h:Heap)(H:Hp):Heap:=W.hideAll h (trk h H)
def IB(h:Heap)(H:Hp):(A6 h H).objs.size=h.objs.size:=W.hideAll_size _ _
def hidT_get(e:h.get? b=some o)(n:H b=none):(A6 h H).get? b=some o :=
 W.hideAll_get _ e λa=>by
  have q:=(cU.mp a).2;rw[n]at q;simp at q
def of_hidT(e:(A6 h H).get? b=some o):h.get? b=some o/\H b=none:=by
 have a:=W.of_hideAll (trk h H) e;refine⟨a,?_⟩;cases q:H b with
 | none=>rfl
 | some x =>
  have c:b∈trk h H:=cU.mpr ⟨dD.mpr (bf a),by simp[q]⟩
  have z:(A6 h H).get? b=none:=W.hideAll_none (trk h H) c;rw[z]at e;cases e
structure Mod (K:W.Frag) (mg:Str->Option Value) (base:Heap):Prop where
 kin:K.In base
 glob:base.Ns mainGlobals mg
 blt:∃mb,base.Ns builtinsNs mb/\∀x:Str,x≠"__name__"->mb x=bootBuiltins x
 nolimit:base.NoLimit
structure Cx where
 prog:Program
 w:World
 K:W.Frag
 mg:Str->Option Value
 base:Heap
 A:Around
 N:List Str
 s₀:Shared
 aa:Hp
 env:Env
 aB:List Env
 stack:List Env
 ex:List Addr
 fn:Str->Bool
 calm:Bool
 pn:List (Addr×Obj)
 xe:Value->Shared->Prop
noncomputable def pV(l:List Env):List Addr:=l.filterMap (·.frame)
abbrev Cx.fs(X:Cx):List Addr:=pV X.aB
def ZA(a:Scope)(x:Str):Prop:=a.names.lookup x=some .local\/a.names.lookup x=some .cell\/a.names.lookup x=some .free
def Tj(a:Scope)(x:Str):Prop:=a.names.lookup x=some .local\/a.names.lookup x=some .cell
def ad4(a:Env)(h:Heap)(m:Str->Option Value)(x:Str)(u:Value):Prop :=
 (a.kindOf x=some .local/\m x=some u)\/((a.kindOf x=some .cell\/a.kindOf x=some .free)/\∃c,a.cells.lookup x=some c/\h.IsCell c (some u))
def A7(x:Str):Str:=x++".<locals>."++"<lambda>"
def tf(K:W.Frag)(H:Hp):Prop:=∀x∈dG,∀c T,W.tabIn K x=some (c,T)->H T=some (.Ef (A7 x))
structure Cx.Ok (X:Cx):Prop where
 mod:Mod X.K X.mg X.base
 kind:X.env.scope.kind=.function
 glob:X.env.globals=mainGlobals
 blt:X.env.builtins=builtinsNs
 above:X.s₀.heap.objs.size<=X.env.locals
 inj:∀x y c,X.env.cells.lookup x=some c->X.env.cells.lookup y=some c->x=y
 has:∀x,(X.env.kindOf x=some .cell\/X.env.kindOf x=some .free)->∃c,X.env.cells.lookup x=some c
 cab:∀x c,X.fn x=true->X.env.cells.lookup x=some c->X.s₀.heap.objs.size<=c
 hd:X.calm=true->X.A.handled=none
 frames:X.A.frames=some X.stack
 stk:X.stack=X.aB\/(X.stack=X.env::X.aB/\X.env.frame=some X.env.locals)
 exf:∀b∈X.ex,b≠X.env.locals/\∀x c,X.env.cells.lookup x=some c->c≠b
 bs:∀b o,X.base.get? b=some o->X.s₀.heap.get? b=some o/\X.aa b=none
 bsz:X.base.objs.size<=X.s₀.heap.objs.size
 noex:∀b o,X.base.get? b=some o->b∉X.ex
 exfs:∀b∈X.ex,b∉X.fs
 funs:X.s₀.heap.FunFrames X.base X.aB
 frf:∀b∈X.fs,X.aa b=none
 tabs:tf X.K X.aa
structure Inv (X:Cx) (ae:List (Addr×Obj)) (σ:List (Option V)) (H:Hp) (s:Shared):Prop where
 ok:X.Ok
 os:s.os=X.s₀.os
 bare:AllBare s.gens
 base:Un X.fs X.ex X.aa H X.s₀.heap s.heap
 loc:∃m,s.heap.Ns X.env.locals m/\∀(i:Nat) (x:Str) (v:V),X.N[i]?=some x->σ[i]?=some (some v)->ZA X.env.scope x->∃u,RelV v u/\ad4 X.env s.heap m x u
 cell:∀x c,X.env.cells.lookup x=some c->∃v,s.heap.IsCell c v
 free:H X.env.locals=none
 freeC:∀x c,X.env.cells.lookup x=some c->H c=none
 pin:∀p∈X.pn++ae,s.heap.get? p.1=some p.2/\H p.1=none/\p.1≠X.env.locals/\p.1∉X.fs/\∀v,p.2.data≠.cell v
 hok:mR X.prog X.w H s.heap
 len:σ.length=X.N.length
section
variable {X:Cx} {ae:List (Addr×Obj)} {σ:List (Option V)} {H H':Hp} {s:Shared} {h':Heap}
def Cx.Ok.ad5(ok:X.Ok)(e:X.base.get? b=some o):b∉X.fs:=λa=>by
 have:=(ok.funs.mem a).1;rw[e]at this;cases this
def Inv.bs(I:Inv X ae σ H s):∀b o,X.base.get? b=some o->s.heap.get? b=some o/\H b=none:=λb o e =>
 ⟨I.base.keep b o (I.ok.bs b o e).1 (I.ok.bs b o e).2 (I.ok.ad5 e) (I.ok.noex b o e),I.base.free b o (I.ok.bs b o e).1 (I.ok.bs b o e).2 (I.ok.noex b o e)⟩
def Inv.bk(I:Inv X ae σ H s):∀b o,X.base.get? b=some o->s.heap.get? b=some o:=λb o e=>(I.bs b o e).1
def Inv.mod(I:Inv X ae σ H s):Mod X.K X.mg X.base:=I.ok.mod
def Inv.tj(I:Inv X ae σ H s):X.K.In s.heap:=I.ok.mod.kin.keeps I.bk
def Inv.lt(I:Inv X ae σ H s):X.env.locals<s.heap.objs.size:=let ⟨_,a,_⟩:=I.loc;a.lt
def Inv.sz(I:Inv X ae σ H s):X.s₀.heap.objs.size<=s.heap.objs.size:=bA I.ok.above (d9 I.lt)
def Inv.ad6(I:Inv X ae σ H s){a:Addr}(h:s.heap.objs.size<=a):a∉X.fs:=λb=>by
 obtain⟨_,o,ho,_⟩:=I.ok.funs.mem b;exact absurd (cb (bf ho) (bA I.sz h)) (gU _)
def Inv.Vn(I:Inv X ae σ H s):∀x c,X.env.cells.lookup x=some c->c≠X.env.locals:=λx c e z=>by
 obtain⟨v,o,ho,hd⟩:=I.cell x c e;obtain⟨m,⟨d,f,g,a,b,_⟩,_⟩:=I.loc;rw[z,a]at ho;cases ho;rw[b]at hd;cases hd
def Inv.funs(I:Inv X ae σ H s):s.heap.FunFrames X.base X.aB:=by
 have all:∀l,(∀b∈pV l,b∈X.fs)->X.s₀.heap.FunFrames X.base l->s.heap.FunFrames X.base l:=by
  intro l;induction l with
  | nil=>intro _ _;trivial
  | cons env r ih =>
   intro f g;obtain⟨hk,⟨L,o,a,h,ho,hd⟩,j⟩:=g;have c:=f L (by unfold pV;rw[ya,a];exact aM)
   obtain⟨k,e⟩:=I.base.slot L o ho (I.ok.frf L c) c λz=>I.ok.exfs L z c
   exact⟨hk,⟨L,_,a,h,e,hd⟩,ih (λb d=>f b (by unfold pV;rw[ya,a];exact aK _ d)) j⟩
 exact all X.aB (λ_ d=>d) I.ok.funs
def Inv.stack(I:Inv X ae σ H s):s.heap.FunFrames X.base X.stack:=by
 rcases I.ok.stk with e | ⟨e,hf⟩
 ·rw[e];exact I.funs
 ·rw[e];obtain⟨m,a,_⟩:=I.loc;refine .cons (by rw[I.ok.kind];decide) hf a ?_ I.funs
  exact Heap.get?_none_of_le (bA I.ok.bsz I.ok.above)
def Inv.yE(I:Inv X ae σ H s):∀b∈pV X.stack,b∈X.env.locals::X.fs:=λb a=>by
 rcases I.ok.stk with e | ⟨e,hf⟩
 ·rw[e]at a;exact aK _ a
 ·rw[e]at a;unfold pV at a;rw[ya,hf]at a;exact a
def Inv.yF(I:Inv X ae σ H s):∀b∈pV X.stack,H b=none:=λb a=>by
 rcases aU.mp (I.yE b a)with e | a
 ·rw[e];exact I.free
 ·obtain⟨_,o,ho,_⟩:=I.ok.funs.mem a;exact I.base.free b o ho (I.ok.frf b a) λz=>I.ok.exfs b z a
def Inv.tabs(I:Inv X ae σ H s):tf X.K H:=λx a c T e=>I.base.tbls T _ (I.ok.tabs x a c T e)
def Inv.step{M:Array GenState}{t':Nat}{R:Drawn}{ch:List Addr}(I:Inv X ae σ H s)
  (D:∀b∈ch,(b∈X.ex\/X.s₀.heap.objs.size<=b)/\b≠X.env.locals/\(∀x c,X.env.cells.lookup x=some c->c≠b)/\∀p∈X.pn++ae,p.1≠b)
  (keep:∀b o,b≠X.env.locals->b∉X.fs->b∉ch->s.heap.get? b=some o->H b=none->h'.get? b=some o)
  (slot:∀b o,b≠X.env.locals->b∈X.fs->b∉ch->s.heap.get? b=some o->H b=none->∃E,h'.get? b=some {o with slots:=E}) (free:∀b o,b∉ch->s.heap.get? b=some o->H b=none->H' b=none)
  (h:∀b o,b∉ch->s.heap.get? b=some o->∃t,h'.get? b=some t)
  (tups:∀b xs,H b=some (.aq xs)->H' b=some (.aq xs)) (frzs:∀b o u,H b=some (.qw o u)->H' b=some (.qw o u)) (y:∀b q,H b=some (.Ef q)->H' b=some (.Ef q))
  (T:∀m,s.heap.Ns X.env.locals m->h'.Ns X.env.locals m) (J:mR X.prog X.w H' h') (Y:AllBare M) :
  Inv X ae σ H' {s with heap:=h',gens:=M,drawn:=R,toks:=t'}:=by
 have B:∀b o,X.s₀.heap.get? b=some o->b≠X.env.locals:=λb o e=>bK (cb (bf e) I.ok.above)
 have g:∀b o,X.s₀.heap.get? b=some o->b∉X.ex->b∉ch:=λb o e a j=>by
  rcases(D b j).1 with z | z
  ·exact a z
  ·exact absurd (cb (bf e) z) (gU _)
 have f:∀x c,X.env.cells.lookup x=some c->∀v,s.heap.IsCell c v->h'.IsCell c v:=by
  rintro x c e v ⟨o,ho,hd⟩
  have C:c∉ch:=by grind
  by_cases hc:c∈X.fs
  ·obtain⟨E,q⟩:=slot c o (I.Vn x c e) hc C ho (I.freeC x c e);exact⟨_,q,hd⟩
  ·exact⟨o,keep c o (I.Vn x c e) hc C ho (I.freeC x c e),hd⟩
 refine⟨I.ok,I.os,Y,⟨λb o e n j a=>?_,λb o e n j a=>?_,λb o e n a=>?_,λb o e a=>?_,λb xs e=>tups b xs (I.base.tups b xs e),λb o xs e=>frzs b o xs (I.base.frzs b o xs e),λb N e=>?_⟩,?_,λx c e=>?_,?_,λx c e=>?_,λp hp=>?_,J,I.len⟩
 ·exact keep b o (B b o e) j (g b o e a) (I.base.keep b o e n j a) (I.base.free b o e n a)
 ·obtain⟨E,e1⟩:=I.base.slot b o e n j a;obtain⟨Z,L⟩:=slot b _ (B b o e) j (g b o e a) e1 (I.base.free b o e n a);exact⟨Z,L⟩
 ·obtain⟨t,e1⟩:=I.base.there b o e a;exact free b t (g b o e a) e1 (I.base.free b o e n a)
 ·obtain⟨t,e1⟩:=I.base.there b o e a;exact h b t (g b o e a) e1
 ·exact y b N (I.base.tbls b N e)
 ·obtain⟨m,hn,hl⟩:=I.loc;refine⟨m,T m hn,λi x v e1 L e3=>?_⟩
  obtain⟨u,r,l⟩:=hl i x v e1 L e3;refine⟨u,r,?_⟩;rcases l with l | ⟨k,c,e,z⟩
  ·exact .inl l
  ·exact .inr ⟨k,c,e,f x c e _ z⟩
 ·obtain⟨v,z⟩:=I.cell x c e;exact⟨v,f x c e v z⟩
 ·obtain⟨m,⟨o,_,_,ho,_⟩,_⟩:=I.loc;exact free _ o (λz=>(D _ z).2.1 rfl) ho I.free
 ·obtain⟨v,o,ho,hd⟩:=I.cell x c e;exact free c o (λz=>(D c z).2.2.1 x c e rfl) ho (I.freeC x c e)
 ·obtain⟨e,n,ne,Q,d⟩:=I.pin p hp;have C:p.1∉ch:=by grind
  exact⟨keep p.1 p.2 ne Q C e n,free p.1 p.2 C e n,ne,Q,d⟩
def Inv.un{t':Nat}(I:Inv X ae σ H s)(u:Un X.fs [] H H' s.heap h')(a:mR X.prog X.w H' h'):Inv X ae σ H' {s with heap:=h',toks:=t'}:=by
 obtain⟨m,⟨o,l,p,ho,r⟩,_⟩:=id I.loc;obtain⟨q,g⟩:=u.any ho I.free (by simp)
 exact I.step (ch:=[]) (λ_ z=>nomatch z) (λb o _ c _ e n=>u.keep b o e n c (by simp)) (λb o _ c _ e n=>u.slot b o e n c (by simp)) (λb o _ e n=>u.free b o e n (by simp)) (λb o _ e=>u.there b o e (by simp)) u.tups u.frzs u.tbls (λt h=>by
  obtain⟨y,j,d,f,k⟩:=h;rw[ho]at f;cases f;exact⟨_,j,d,g,k⟩) a I.bare
def Inv.call{g:Array GenState}{t':Nat}{k:Drawn}{ch:List Addr}(I:Inv X ae σ H s)(u:Un (pV X.stack) ch H H' s.heap h')(a:mR X.prog X.w H' h')(l:AllBare g)
  (h:∀b∈ch,(b∈X.ex\/X.s₀.heap.objs.size<=b)/\b≠X.env.locals/\(∀x c,X.env.cells.lookup x=some c->c≠b)/\∀p∈X.pn++ae,p.1≠b) :
  Inv X ae σ H' {s with heap:=h',gens:=g,drawn:=k,toks:=t'}:=by
 obtain⟨m,⟨o,C,D,ho,r⟩,_⟩:=id I.loc;obtain⟨E,d⟩:=u.any ho I.free λz=>(h _ z).2.1 rfl
 exact I.step h (λb o d q hc e n=>u.keep b o e n (λz=>(aU.mp (I.yE b z)).elim d q) hc) (λb o _ _ hc e n=>u.any e n hc) (λb o hc e n=>u.free b o e n hc) (λb o hc e=>u.there b o e hc) u.tups u.frzs u.tbls (λJ t=>by
  obtain⟨L,y,f,j,B⟩:=t;rw[ho]at j;cases j;exact⟨_,y,f,d,B⟩) a l
def Inv.turned{t':Nat}(I:Inv X ae σ H s)(k:∀b o,b≠it->s.heap.get? b=some o->h'.get? b=some o)(f:H it=none)(a:it≠X.env.locals)
  (h1:it∈X.ex\/X.s₀.heap.objs.size<=it) (g:∀x c,X.env.cells.lookup x=some c->c≠it) (h:∀p∈X.pn++ae,p.1≠it):Inv X ae σ H {s with heap:=h',toks:=t'}:=by
 have d:∀b u,H b=some u->b≠it:=λb u e z=>by rw[z,f]at e;cases e
 refine I.step (ch:=[it]) (λb j=>?_) (λb o _ _ hc e _=>k b o (λz=>hc (by simp[z])) e) (λb o _ _ hc e _=>⟨o.slots,k b o (λz=>hc (by simp[z])) e⟩) (λ_ _ _ _ n=>n)
  (λb o hc e=>⟨o,k b o (λz=>hc (by simp[z])) e⟩) (λ_ _ e=>e) (λ_ _ _ e=>e) (λ_ _ e=>e) (λm l=>?_) (λb u e=>?_) I.bare
 ·have e:b=it:=by simpa using j
  subst e;exact⟨h1,a,g,h⟩
 ·obtain⟨o,t,w,ho,r⟩:=l;exact⟨o,t,w,k _ o (dF a) ho,r⟩
 ·refine(I.hok b u e).yD (λc v hc q=>k c v ?_ q) (λ_ q=>q) (λ_ _ q=>q) λ_ _ _ q=>q
  rcases hc with z | z
  ·rw[z];exact d b u e
  ·exact d c _ z
def Inv.tok(I:Inv X ae σ H s)(t:Nat):Inv X ae σ H {s with toks:=t}:=I.un Un.refl I.hok
def Inv.kept(I:Inv X ae σ H s)(k:∀b u,s.heap.get? b=some u->h'.get? b=some u):Inv X ae σ H {s with heap:=h',toks:=t'}:=I.un (Un.kept k) (I.hok.kept k)
def Inv.laid{a:Addr}{o:HO}{t':Nat}(I:Inv X ae σ H s)(k:∀b u,s.heap.get? b=some u->h'.get? b=some u)(hp:s.heap.objs.size<=a)(c:gw X.prog X.w (cC H a o) h' a o) :
  Inv X ae σ (cC H a o) {s with heap:=h',toks:=t'}:=I.un (Un.laid k hp (I.hok.fresh hp)) (I.hok.laid k hp c)
def Inv.write(I:Inv X ae σ H s)(c:Mut (H x))(he:e=x\/H e=some (.own x))(k:∀b u,b≠e->s.heap.get? b=some u->h'.get? b=some u)(d:∃u,h'.get? e=some u)
  (a:gw X.prog X.w (cC H x o) h' x o):Inv X ae σ (cC H x o) {s with heap:=h',toks:=t'}:=I.un (Un.write c he k d) (I.hok.write c he k d a)
def Inv.nE(I:Inv X ae σ H s)(h:∀p∈a,s.heap.get? p.1=some p.2/\H p.1=none/\p.1≠X.env.locals/\p.1∉X.fs/\∀v,p.2.data≠.cell v):Inv X a σ H s :=
 ⟨I.ok,I.os,I.bare,I.base,I.loc,I.cell,I.free,I.freeC,λp hp=>(bI.mp hp).elim (λz=>I.pin p (ik _ z)) (h p),I.hok,I.len⟩
def A8{N:List Str}(hN:N.Nodup){i j:Nat}(a:N[i]?=some x)(b:N[j]?=some x):i=j:=by
 obtain⟨d,e1⟩:=bW.mp a;obtain⟨e,c⟩:=bW.mp b;exact(D8 hN).mp (e1.trans c.symm)
def store_ok2{M:Model}{A:Around}{E:Value->Shared->Prop}{i:Nat}{v:V}{u:Value}{Q:Unit->Shared->Prop}(I:Inv X ae σ H s)(hN:X.N.Nodup)(C:X.N[i]?=some x)(g:Tj X.env.scope x)(r:RelV v u)
  (h:∀R,Inv X ae (σ.set i (some v)) H R->(∃a,Heap.SameBut a s.heap R.heap/\(a=X.env.locals\/X.env.cells.lookup x=some a))->Q () R) (hf:X.fn x=true\/X.env.scope.names.lookup x=some .local:=by first | exact .inl rfl | exact .inr rfl | assumption):wpAny M A (storeName X.env x u) Q E s:=by
 obtain⟨m,T,hl⟩:=id I.loc;have Y:(X.env.scope.kind==.class || (X.env.scope.kind==.module&&X.env.locals != X.env.globals))=false:=by rw[I.ok.kind];rfl
 have ZG:i<σ.length:=by rw[I.len];exact(bW.mp C).1
 have Vn:=I.Vn;have Gv:∀{a:Addr} {h':Heap},(∃o,s.heap.get? a=some o/\H a=none)->Heap.SameBut a s.heap h'->mR X.prog X.w H h':=λ{a h'} ha f b ob e=>by
  obtain⟨_,_,A9⟩:=ha;refine(I.hok b ob e).yD (λc J hc q=>(f.2 c ?_).trans q) (λ_ q=>q) (λ_ _ q=>q) λ_ _ _ q=>q
  rintro rfl
  rcases hc with rfl | hc
  ·grind
  ·grind
 rcases g with hk | hk
 ·refine wpAny_storeName_local hk T (λh' ZH f=>?_) Y
  obtain⟨oL,_,_,To,_⟩:=id T;refine h _ ⟨I.ok,I.os,I.bare,⟨λb o e n t g=>?_,λb o e n t g=>?_,I.base.free,λb o e g=>?_,I.base.tups,I.base.frzs,I.base.tbls⟩,⟨_,ZH,λj y Z e1 l e3=>?_⟩,λy c e=>?_,I.free,I.freeC,λp hp=>?_,Gv ⟨oL,To,I.free⟩ f,by simpa using I.len⟩ ⟨_,f,.inl rfl⟩
  ·exact(f.2 b (bK (cb (bf e) I.ok.above))).trans (I.base.keep b o e n t g)
  ·obtain⟨sl,e1⟩:=I.base.slot b o e n t g;exact⟨sl,(f.2 b (bK (cb (bf e) I.ok.above))).trans e1⟩
  ·obtain⟨o',e1⟩:=I.base.there b o e g;exact⟨o',(f.2 b (bK (cb (bf e) I.ok.above))).trans e1⟩
  ·by_cases B:j=i
   ·subst B;rw[C]at e1;cases e1;rw[px ZG]at l;cases l;exact⟨u,r,.inl ⟨hk,by simp⟩⟩
   ·rw[kF (dF B)]at l;obtain⟨u',r',q⟩:=hl j y Z e1 l e3;refine⟨u',r',?_⟩;rcases q with⟨k,e⟩ | ⟨k,c,e,z⟩
    ·refine .inl ⟨k,?_⟩;have:y≠x:=λe=>B (A8 hN e1 (e▸C))
     simp[this,e]
    ·exact .inr ⟨k,c,e,z.sameBut f (Vn y c e)⟩
  ·obtain⟨J,z⟩:=I.cell y c e;exact⟨J,z.sameBut f (Vn y c e)⟩
  ·obtain⟨e,n,ne,nf,d⟩:=I.pin p hp;exact⟨(f.2 p.1 ne).trans e,n,ne,nf,d⟩
 ·have Gw:X.fn x=true:=by
   grind
  obtain⟨c,hc⟩:=I.ok.has x (.inl hk);obtain⟨J,z⟩:=I.cell x c hc;refine wpAny_storeName_cell I.ok.kind hk hc z (λh' Gy f=>?_)
  obtain⟨oc,D,aiw⟩:=id z;refine h {s with heap:=h'} ⟨I.ok,I.os,I.bare,⟨λb o e n t g=>?_,λb o e n t g=>?_,I.base.free,λb o e g=>?_,I.base.tups,I.base.frzs,I.base.tbls⟩,⟨m,T.sameBut f (dF (Vn x c hc)),λj y Z e1 l e3=>?_⟩,λy L e=>?_,I.free,I.freeC,λp hp=>?_,Gv ⟨oc,D,I.freeC x c hc⟩ f,by simpa using I.len⟩ ⟨c,f,.inr hc⟩
  ·exact(f.2 b (bK (cb (bf e) (I.ok.cab x c Gw hc)))).trans (I.base.keep b o e n t g)
  ·obtain⟨sl,e1⟩:=I.base.slot b o e n t g;exact⟨sl,(f.2 b (bK (cb (bf e) (I.ok.cab x c Gw hc)))).trans e1⟩
  ·obtain⟨o',e1⟩:=I.base.there b o e g;exact⟨o',(f.2 b (bK (cb (bf e) (I.ok.cab x c Gw hc)))).trans e1⟩
  ·by_cases B:j=i
   ·subst B;rw[C]at e1;cases e1;rw[px ZG]at l;cases l;exact⟨u,r,.inr ⟨.inl hk,c,hc,Gy⟩⟩
   ·rw[kF (dF B)]at l;obtain⟨u',r',q⟩:=hl j y Z e1 l e3;refine⟨u',r',?_⟩;rcases q with q | ⟨k,L,e,z'⟩
    ·exact .inl q
    ·refine .inr ⟨k,L,e,z'.sameBut f ?_⟩
     rintro rfl
     exact B (A8 hN e1 (I.ok.inj _ _ _ e hc▸C))
  ·by_cases Y4:L=c
   ·grind
   ·obtain⟨w2,z2⟩:=I.cell y L e;exact⟨w2,z2.sameBut f Y4⟩
  ·obtain⟨e,n,ne,nf,d⟩:=I.pin p hp;refine⟨(f.2 p.1 ?_).trans e,n,ne,nf,d⟩;intro q;rw[q,D]at e;have q':=cD e;exact d J (by grind)
def tq(I:Inv X ae σ H s)(hN:X.N.Nodup)(b:X.N[i]?=some x)(c:Tj X.env.scope x)(r:RelV v u)
  (h:∀a,Inv X ae (σ.set i (some v)) H a->Q () a) (d:X.fn x=true\/X.env.scope.names.lookup x=some .local:=by first | exact .inl rfl | exact .inr rfl | assumption):wpAny M A (storeName X.env x u) Q E s :=
 store_ok2 I hN b c r (λa e _=>h a e) d
def Inv.Tp(I:Inv X ae σ H s)(ho:a.os=s.os)(u:Un (pV X.stack) ch H H' s.heap a.heap)(d:mR X.prog X.w H' a.heap)(f:AllBare a.gens)
  (g:∀b∈ch,(b∈X.ex\/X.s₀.heap.objs.size<=b)/\b≠X.env.locals/\(∀x c,X.env.cells.lookup x=some c->c≠b)/\∀p∈X.pn++ae,p.1≠b):Inv X ae σ H' a:=by
 obtain⟨h',h,j,k,l⟩:=a;have e:=ho;subst e;exact I.call u d f g
end
abbrev XK:=Value->Option Addr->Hp->Prop
abbrev St:=List (Option V)
abbrev VK:=V->Hp->Prop
abbrev TE:=St->Hp->VK->Prop
abbrev TT:=St->Hp->(Bool->Hp->Prop)->Prop
abbrev TA:=St->Hp->(List V->Hp->Prop)->Prop
structure vn where
 nx:St->Hp->Prop
 rt:VK
 bk:St->Hp->Prop:=λ_ _=>False
 ct:St->Hp->Prop:=λ_ _=>False
abbrev TS:=vn->St->Hp->Prop
def EP(X:Cx)(b:List (Addr×Obj))(c:St)(Q:VK)(u:Value)(d:Shared):Prop:=∃v a,Inv X b c a d/\RelV v u/\Q v a
def TP(X:Cx)(c:List (Addr×Obj))(d:St)(Q:Bool->Hp->Prop)(b:Bool)(e:Shared):Prop:=∃a,Inv X c d a e/\Q b a
def AP(X:Cx)(c:List (Addr×Obj))(d:St)(Q:List V->Hp->Prop)(e:List Value)(f:Shared):Prop:=∃a b,Inv X c d b f/\Vals a e/\Q a b
def SP(X:Cx)(c:List (Addr×Obj))(D:vn)(f:Flow)(d:Shared):Prop :=
 match f with
 | .next=>∃b a,Inv X c b a d/\D.nx b a
 | .brk=>∃b a,Inv X c b a d/\D.bk b a
 | .cont=>∃b a,Inv X c b a d/\D.ct b a
 | .ret u=>∃v b a,Inv X c b a d/\RelV v u/\D.rt v a
def PE(X:Cx)(e:Expr)(t:TE):Prop :=
 ∀(a:List (Addr×Obj)) (s:Shared) (σ:St) (H:Hp) (Q:VK),Inv X a σ H s->t σ H Q->wpAny (model X.prog X.w) X.A (eval e X.env) (EP X a σ Q) X.xe s
def PT(X:Cx)(e:Expr)(t:TT):Prop :=
 ∀(a:List (Addr×Obj)) (s:Shared) (σ:St) (H:Hp) (Q:Bool->Hp->Prop),Inv X a σ H s->t σ H Q->wpAny (model X.prog X.w) X.A (isTrue e X.env (eval e X.env)) (TP X a σ Q) X.xe s
def PW(X:Cx)(e:Expr)(t:TT):Prop :=
 ∀(b:Sem Value) (a:List (Addr×Obj)) (s:Shared) (σ:St) (H:Hp) (Q:Bool->Hp->Prop),Inv X a σ H s->t σ H Q->wpAny (model X.prog X.w) X.A (isTrue e X.env b) (TP X a σ Q) X.xe s
def PW.pt(h:PW X e t):PT X e t:=h _
def PA(X:Cx)(b:List Expr)(t:TA):Prop :=
 ∀(pos:Pos) (a:List (Addr×Obj)) (s:Shared) (σ:St) (H:Hp) (Q:List V->Hp->Prop),Inv X a σ H s->t σ H Q->wpAny (model X.prog X.w) X.A (spliced (backTo pos (starEach b X.env))) (AP X a σ Q) X.xe s
def PS(X:Cx)(st:Stmt)(t:TS):Prop :=
 ∀(a:List (Addr×Obj)) (s:Shared) (σ:St) (H:Hp) (D:vn),Inv X a σ H s->t D σ H->wpAny (model X.prog X.w) X.A (exec st X.env) (SP X a D) X.xe s
def PSs(X:Cx)(st:List Stmt)(t:TS):Prop :=
 ∀(a:List (Addr×Obj)) (s:Shared) (σ:St) (H:Hp) (D:vn),Inv X a σ H s->t D σ H->wpAny (model X.prog X.w) X.A (execs st X.env) (SP X a D) X.xe s
def thn{b:Type}{t:Sem b}{Q c:b->Shared->Prop}{M:Model}{A:Around}{E:Value->Shared->Prop}(h:wpAny M A t Q E s)(d:∀a s,Q a s->c a s):wpAny M A t c E s:=jH h d λ_ _ x=>x
section
variable {X:Cx}
def bin{a b:Expr}{j k:TE}(m:PE X a j)(o:PE X b k){g:List (Addr×Obj)}{s:Shared}{c:St}{H:Hp}{R:V->V->Hp->Prop}(I:Inv X g c H s)(h:j c H λx i=>k c i λy d=>R x y d)
  {l:Type} {Q:l->Shared->Prop} {f:Value->Value->Sem l}
  (p:∀v u s2 x y d,Inv X g c d s2->RelV x v->RelV y u->R x y d->wpAny (model X.prog X.w) X.A (f v u) Q X.xe s2) :
  wpAny (model X.prog X.w) X.A (eval a X.env) (λv e=>wpAny (model X.prog X.w) X.A (eval b X.env) (λu q=>wpAny (model X.prog X.w) X.A (f v u) Q X.xe q) X.xe e) X.xe s:=by
 refine thn (m g s c H _ I h) λv s1 ⟨x,i,r,t,B⟩=>?_
 refine thn (o g s1 c i _ r B) λu s2 ⟨y,d,C,D,E⟩=>?_
 exact p v u s2 x y d C t D E
def Pn(i:Nat):TE:=λa H Q=>∃v,a[i]?=some (some v)/\Q v H
def tC(v:V):TE:=λ_ H Q=>Q v H
def pe_var{i:Nat}{x:Str}{pos:Pos}(hN:X.N[i]?=some x)(b:ZA X.env.scope x)(hd:(x==("__debug__":Str))=false:=by decide)(d:(x==("__classdict__":Str))=false:=by decide):PE X (.Name x pos) (Pn i):=by
 intro f s g H Q I h;obtain⟨v,e,h⟩:=h;obtain⟨m,j,k⟩:=I.loc;obtain⟨u,r,l⟩:=k i x v hN e b;have fin:EP X f g Q u s:=⟨v,H,I,r,h⟩;rcases l with⟨hk,hm⟩ | ⟨hk,c,hc,a⟩
 ·exact wpAny_Name (wpAny_loadName_local I.ok.kind hk j hm fin) hd
 ·rcases hk with hk | hk
  ·exact wpAny_Name (wpAny_loadName_cell I.ok.kind hk hc a fin) hd
  ·exact wpAny_Name (wpAny_loadName_free I.ok.kind hk hc a fin d) hd
def Vo{i j pos}:PE X (.Constant (.int i) j pos) (tC (.int i)):=λ_ _ _ H _ I h=>wpAny_Constant_int ⟨.int i,H,I.tok _,⟨_,rfl⟩,h⟩
def ZI{b j pos}:PE X (.Constant (.bool b) j pos) (tC (.bl b)):=λ_ _ _ H _ I h=>Constant_bool ⟨.bl b,H,I,rfl,h⟩
def Vp{j pos}:PE X (.Constant .none j pos) (tC .bM):=λ_ _ _ H _ I h=>Constant_none ⟨.bM,H,I,rfl,h⟩
def Vq{x j pos}:PE X (.Constant (.str x) j pos) (tC (.str x)):=λ_ _ _ H _ I h=>Calls.Constant_str ⟨.str x,H,I.tok _,⟨_,rfl⟩,h⟩
def Gl(X:Cx)(x:Str):Prop:=X.env.kindOf x=some .globalImplicit
def ld_glob{E:Value->Shared->Prop}{a:List (Addr×Obj)}{s:Shared}{b:St}{H:Hp}{x:Str}{u:Value}{pos:Pos}{Q:Value->Shared->Prop}(I:Inv X a b H s)(c:Gl X x)(d:X.mg x=some u)(h:Q u s)
  (hd:(x==("__debug__":Str))=false:=by decide):wpAny (model X.prog X.w) X.A (eval (.Name x pos) X.env) Q E s :=
 KO I.ok.kind c (Calls.loadGlobal_global (by rw[I.ok.glob];exact I.mod.glob.keeps I.bk) d h) hd
def ld_blt{E:Value->Shared->Prop}{a:List (Addr×Obj)}{s:Shared}{b:St}{H:Hp}{x:Str}{u:Value}{pos:Pos}{Q:Value->Shared->Prop}(I:Inv X a b H s)(c:Gl X x)(d:X.mg x=none)(e:bootBuiltins x=some u)(h:Q u s)
  (f:x≠"__name__":=by decide) (hd:(x==("__debug__":Str))=false:=by decide):wpAny (model X.prog X.w) X.A (eval (.Name x pos) X.env) Q E s:=by
 obtain⟨j,g,i⟩:=I.mod.blt;exact KO I.ok.kind c (Calls.loadGlobal_builtin (by rw[I.ok.glob];exact I.mod.glob.keeps I.bk) d (by rw[I.ok.blt];exact g.keeps I.bk) ((i x f).trans e) h) hd
def Gz(a:Gl X x)(b:X.mg x=some u)(r:RelV v u)(hd:(x==("__debug__":Str))=false:=by decide):PE X (.Name x pos) (tC v) :=
 λ_ _ _ H _ I h=>ld_glob I a b ⟨v,H,I,r,h⟩ hd
def Po{x:Str}{v:V}{u:Value}{pos:Pos}(a:Gl X x)(b:X.mg x=none)(c:bootBuiltins x=some u)(r:RelV v u)(d:x≠"__name__":=by decide)(hd:(x==("__debug__":Str))=false:=by decide):PE X (.Name x pos) (tC v) :=
 λ_ _ _ H _ I h=>ld_blt I a b c ⟨v,H,I,r,h⟩ d hd
variable {a b:Expr} {ta tb:TE} {pos:Pos}
variable {tA tB':TT} {rest:List Expr}
def aea(t u:TT):TT:=λd H Q=>t d H λc e=>if c=true then u d e Q else Q false e
def tOr(t u:TT):TT:=λd H Q=>t d H λc e=>if c=true then Q true e else u d e Q
def aeb(t:TT):TT:=λd H Q=>t d H λc e=>Q (!c) e
def Pp(d:PT X a tA):PW X (.BoolOp .And [a] pos) tA:=by
 intro i f s g H Q I h;refine isTrue_and (thn (d f s g H Q I h) λc j e=>?_)
 cases c with
 | true=>exact isTrue_and_nil e
 | false=>exact e
def Vr(d:PT X a tA):PW X (.BoolOp .Or [a] pos) tA:=by
 intro i f s g H Q I h;refine isTrue_or (thn (d f s g H Q I h) λc j e=>?_)
 cases c with
 | false=>exact isTrue_or_nil e
 | true=>exact e
def Vs(i:PT X a tA)(j:PW X (.BoolOp .And (b::rest) pos) tB'):PW X (.BoolOp .And (a::b::rest) pos) (aea tA tB'):=by
 intro k d s e H Q I h;refine isTrue_and (thn (i d s e H _ I h) λc s1 ⟨H1,f,g⟩=>?_)
 cases c with
 | true=>exact j k d s1 e H1 Q f g
 | false=>exact⟨H1,f,g⟩
def ZJ(i:PT X a tA)(j:PW X (.BoolOp .Or (b::rest) pos) tB'):PW X (.BoolOp .Or (a::b::rest) pos) (tOr tA tB'):=by
 intro k d s e H Q I h;refine isTrue_or (thn (i d s e H _ I h) λc s1 ⟨H1,f,g⟩=>?_)
 cases c with
 | true=>exact⟨H1,f,g⟩
 | false=>exact j k d s1 e H1 Q f g
def Vt(d:PT X a tA):PT X (.UnaryOp .Not a pos) (aeb tA):=by
 intro e s f H Q I h;exact isTrue_not (d e s f H (λc g=>Q (!c) g) I h)
def ZK(ta:TE):TE:=λd H Q=>ta d H λx e=>∃c,x=.bl c/\Q (.bl (!c)) e
def Le{op}(h:PE X a t):PE X (.BoolOp op [a] pos) t:=λc s d H Q I hw=>BoolOp_one (h c s d H Q I hw)
def Vu(e:PE X a ta):PE X (.UnaryOp .Not a pos) (ZK ta):=by
 intro f s g H Q I h;refine UnaryOp_ (thn (e f s g H _ I h) λv s1 ⟨x,H1,i,j,d⟩=>?_)
 obtain⟨c,rfl,d⟩:=d;cases j;exact not_of (mI ⟨.bl (!c),H1,i,rfl,d⟩)
def tIf(t:TT)(ta tb:TE):TE:=λd H Q=>t d H λc e=>if c=true then ta d e Q else tb d e Q
def Lf(hc:PT X c tA)(j:PE X a ta)(k:PE X b tb):PE X (.IfExp c a b pos) (tIf tA ta tb):=by
 intro e s f H Q I h;refine wpAny_IfExp (thn (hc e s f H _ I h) λd s1 ⟨H1,g,i⟩=>?_)
 cases d with
 | true=>exact j e s1 f H1 Q g i
 | false=>exact k e s1 f H1 Q g i
end
def yG(K:W.Frag)(H:Hp)(a:Addr)(xs:List V):Prop :=
 Rd H a (.lst xs) \/
  ∃(o:Obj) (b:Array Value) (n:Nat),K.lookup a=some o/\o.cls=.type "list"/\o.dict=none/\o.data=.seq b n/\b.size<=sizeLine/\Vals xs b.toList
def lB.sq{K:W.Frag}{H:Hp}{a:Addr}{xs:List V}(h:lB K H a xs):yG K H a xs:=by
 rcases h with h | ⟨b,n,e,z,r⟩
 ·exact .inl h
 ·exact .inr ⟨_,b.toArray,n,e,rfl,rfl,rfl,by grind,by grind⟩
noncomputable def aec:Value->Option V
 | .none=>some .bM
 | .bool b=>some (.bl b)
 | .int i _=>some (.int i)
 | .str x _=>some (.str x)
 | .bytes b _=>some (.Y1 b)
 | .float b _=>some (.flt b)
 | .ref a=>some (.ref a)
 | .type n=>some (.ty n)
 | _=>none
def RelV.abs(r:RelV x u):aec u=some x:=by
 cases x with
 | bM=>cases r;rfl
 | bl _=>cases r;rfl
 | int _=>obtain⟨t,rfl⟩:=r;rfl
 | str _=>obtain⟨t,rfl⟩:=r;rfl
 | Y1 _=>obtain⟨t,rfl⟩:=r;rfl
 | flt _=>obtain⟨t,rfl⟩:=r;rfl
 | ref _=>cases r;rfl
 | ty _=>cases r;rfl
def RelV.inj(r:RelV x u)(q:RelV y u):x=y:=cD (r.abs.symm.trans q.abs)
theorem Vals.inj:∀{xs a:List V} {us:List Value},Vals xs us->Vals a us->xs=a
 | _,_,_,.nil,.nil=>rfl
 | _,_,_,.cons r t,.cons b c=>by rw[r.inj b,Vals.inj t c]
section
variable {X:Cx} {ae:List (Addr×Obj)} {σ:St} {H:Hp} {s:Shared} {a:Addr} {xs ys:List V}
def iG.of{K:W.Frag}(h:H a=some (.aq xs)):iG K H a xs:=.inl (.inl h)
def Inv.list(I:Inv X ae σ H s)(h:yG X.K H a xs):∃b:List Value,Vals xs b/\PlainL s.heap a b.toArray/\xs.length<=sizeLine:=by
 rcases h with h | ⟨o,b,n,hk,hc,hd,c,d,r⟩
 ·obtain⟨z,b,n,r,e⟩:=h.ok I.hok;exact⟨b,r,⟨_,n,e,rfl,rfl,rfl⟩,z⟩
 ·refine⟨b.toList,r,⟨o,n,I.tj a o hk,hc,hd,by simp_all⟩,?_⟩
  have e:=r.length;simp only[de]at e
  lia
def Inv.tuple(I:Inv X ae σ H s)(h:iG X.K H a xs):∃b:List Value,Vals xs b/\IsTup s.heap a b.toArray/\xs.length<=sizeLine:=by
 rcases h with h | ⟨o,b,n,hk,hc,c,d,r⟩
 ·obtain⟨z,b,r,p⟩:=h.ok I.hok;exact⟨b,r,p,z⟩
 ·refine⟨b.toList,r,⟨o,I.tj a o hk,hc,n,by simp_all⟩,?_⟩
  have e:=r.length;simp only[de]at e
  lia
def Inv.nH(I:Inv X ae σ H s)(h:yG X.K H a xs)(h':yG X.K H a ys):xs=ys:=by
 obtain⟨f,r,⟨o,n,e,_,_,d⟩,_⟩:=I.list h;obtain⟨g,j,⟨k,l,b,_,_,c⟩,_⟩:=I.list h';rw[e]at b;cases b;rw[d]at c;injection c with m _
 have:f=g:=by grind
 subst this;exact r.inj j
def Inv.lD(I:Inv X ae σ H s)(h:iG X.K H a xs)(h':iG X.K H a ys):xs=ys:=by
 obtain⟨f,r,⟨o,e,_,n,d⟩,_⟩:=I.tuple h;obtain⟨g,j,⟨k,b,_,l,c⟩,_⟩:=I.tuple h';rw[e]at b;cases b;rw[d]at c;injection c with m _
 have:f=g:=by grind
 subst this;exact r.inj j
end
section
variable {X:Cx} {st:Stmt} {rest:List Stmt} {t u:TS} {e:Expr} {te:TE} {pos:Pos}
def Tq:TS:=λD a H=>D.nx a H
def aed(t u:TS):TS:=λD a H=>t {D with nx:=u D} a H
def Pq:PSs X [] Tq:=λ_ _ a H _ I h=>yr ⟨a,H,I,h⟩
def Lg(h1:PS X st t)(b:PSs X rest u):PSs X (st::rest) (aed t u):=by
 intro a s c H D I h;refine wpAny_execs_cons (thn (h1 a s c H {D with nx:=u D} I h) λf d q=>?_)
 cases f with
 | next =>
  obtain⟨g,i,j,q⟩:=q;exact b a d g i D j q
 | ret v=>exact q
 | brk=>exact q
 | cont=>exact q
def Pr(h1:PS X st t):PSs X [st] t:=by
 intro a s b H D I h;refine wpAny_execs_cons (thn (h1 a s b H D I h) λf c q=>?_)
 cases f with
 | next=>exact yr q
 | ret v=>exact q
 | brk=>exact q
 | cont=>exact q
def Vv:TS:=λD a H=>D.bk a H
def ZL:TS:=λD a H=>D.ct a H
def Pt:PS X (.Pass pos) Tq:=λ_ _ a H _ I h=>wpAny_Pass ⟨a,H,I,h⟩
def Lh:PS X (.Break pos) Vv:=λ_ _ a H _ I h=>wpAny_Break ⟨a,H,I,h⟩
def Bb:PS X (.Continue pos) ZL:=λ_ _ a H _ I h=>wpAny_Continue ⟨a,H,I,h⟩
def Inv.quiet{a:List (Addr×Obj)}{σ:St}{H:Hp}{s:Shared}(I:Inv X a σ H s):interactive X.env=false:=by simp[interactive,I.ok.kind]
def ZM(te:TE):TS:=λD a H=>te a H λ_ b=>D.nx a b
def Pu(he:PE X e te)(b:swapsWith e none pos.line X.env=pure false:=by rfl):PS X (.Expr e pos) (ZM te):=by
 intro c s a H D I h;exact wpAny_Expr_any (thn (he c s a H _ I h) (by rintro v s1 ⟨x,H1,d,g,f⟩;exact⟨a,H1,d,f⟩)) I.quiet b
def aee(te:TE):TS:=λD a H=>te a H D.rt
def Vw(he:PE X e te):PS X (.Return (some e) pos) (aee te):=by
 intro b s a H D I h;exact wpAny_Return_some (thn (he b s a H _ I h) (by rintro v s1 ⟨x,H1,c,d,f⟩;exact⟨x,a,H1,c,d,f⟩))
def ZN:TS:=λD _ H=>D.rt .bM H
def Pw:PS X (.Return none pos) ZN:=λ_ _ a H _ I h=>wpAny_Return_none ⟨.bM,a,H,I,rfl,h⟩
def aef(c:TT)(t u:TS):TS:=λD a H=>c a H λb d=>if b=true then t D a d else u D a d
def ZO(hc:PT X c k)(l:PSs X a t)(m:PSs X b u):PS X (.If c a b pos) (aef k t u):=by
 intro f s g H D I h;refine wpAny_If (thn (hc f s g H _ I h) λd s1 ⟨H1,i,j⟩=>?_)
 cases d with
 | true=>exact l f s1 g H1 D i j
 | false=>exact m f s1 g H1 D i j
end
abbrev TG:=V->St->Hp->(St->Hp->Prop)->Prop
abbrev Vx:=List V->St->Hp->(St->Hp->Prop)->Prop
def PG(X:Cx)(a:Expr)(t:TG):Prop :=
 ∀(b:List (Addr×Obj)) (s:Shared) (σ:St) (H:Hp) (v:V) (u:Value) (Q:St->Hp->Prop),Inv X b σ H s->RelV v u->t v σ H Q ->
  wpAny (model X.prog X.w) X.A (assign a X.env u) (λ_ e=>∃c d,Inv X b c d e/\Q c d) X.xe s
def PGs(X:Cx)(e:List Expr)(t:Vx):Prop :=
 ∀(a:List (Addr×Obj)) (s:Shared) (σ:St) (H:Hp) (b:List V) (us:List Value) (Q:St->Hp->Prop),Inv X a σ H s->Vals b us->t b σ H Q ->
  wpAny (model X.prog X.w) X.A (assignInOrder ((assignEach e X.env).map (·.2)) us) (λ_ f=>∃c d,Inv X a c d f/\Q c d) X.xe s
abbrev Li:=V->V->V->Hp->(Hp->Prop)->Prop
def Lj(X:Cx)(t:Li):Prop :=
 ∀(a:List (Addr×Obj)) (s:Shared) (σ:St) (H:Hp) (o i v:V) (b c u:Value) (Q:Hp->Prop),Inv X a σ H s->RelV o b->RelV i c->RelV v u->t o i v H Q ->
  wpAny (model X.prog X.w) X.A (setItem b c u) (λ_ e=>∃d,Inv X a σ d e/\Q d) X.xe s
abbrev TIp:=V->V->Hp->VK->Prop
def PIp(X:Cx)(b:Operator)(t:TIp):Prop :=
 ∀(a:List (Addr×Obj)) (s:Shared) (σ:St) (H:Hp) (x y:V) (v u:Value) (Q:VK),Inv X a σ H s->RelV x v->RelV y u->t x y H Q ->
  wpAny (model X.prog X.w) X.A (inplaceOp b v u) (EP X a σ Q) X.xe s
section
variable {X:Cx} {pos:Pos}
def gName(i:Nat):TG:=λv a H Q=>Q (a.set i (some v)) H
def Px(hN:X.N.Nodup)(a:X.N[i]?=some x)(b:Tj X.env.scope x)(c:X.fn x=true\/X.env.scope.names.lookup x=some .local:=by first | exact .inl rfl | exact .inr rfl | assumption):PG X (.Name x pos) (gName i):=by
 intro e s f H v u Q I r h;exact wpAny_assign_Name (tq I hN a b r (λg d=>⟨_,H,d,h⟩) c)
def aeg:Vx:=λa b H Q=>a=[]/\Q b H
def ZP(t:TG)(u:Vx):Vx:=λa b H Q=>∃v r,a=v::r/\t v b H λc d=>u r c d Q
def Py:PGs X [] aeg:=by
 intro b s a H c d Q I r h;obtain⟨e,h⟩:=h;subst e;cases r;exact assignInOrder_nil ⟨a,H,I,h⟩
def Lk(h1:PG X e t)(c:PGs X a u)
  (d:(assignEach (e::a) X.env).map (·.2)=assign e X.env::(assignEach a X.env).map (·.2):=by rfl):PGs X (e::a) (ZP t u):=by
 intro b s f H l m Q I r h;obtain⟨v,o,e1,h⟩:=h;subst e1;cases r with
 | cons r g =>
  rw[d];refine assignInOrder_cons (thn (h1 b s f H _ _ _ I r h) λ_ s1 ⟨i,H1,j,k⟩=>?_)
  exact c b s1 i H1 _ _ Q j g k
def aeh(K:W.Frag)(n:Nat)(t:Vx):TG:=λv c H Q=>∃a b,v=.ref a/\iG K H a b/\b.length=n/\t b c H Q
def Vy{c:List Expr}{k:Nat}{t:Vx}{n:Nat}(hc:X.calm=true)(h:PGs X c t)
  (d:(assignEach c X.env).length=n:=by rfl) (f:(assignEach c X.env).findIdx? (·.1)=none:=by rfl):PG X (.Tuple c k pos) (aeh X.K n t):=by
 intro g s i H v u Q I r hw;obtain⟨a,j,e1,l,m,hw⟩:=hw;subst e1;cases r;obtain⟨x,p,ht,y⟩:=I.tuple l;refine assign_Tuple_tuple (I.ok.hd hc) ht (by simp[d,<-m,p.length]) f λB q=>?_
 have w:=I.kept (t':=s.toks) λb o e=>q b o (bK (bf e)) e
 exact h g _ i H j _ Q w (by grind) hw
def aei(to b:TE)(t:Li):TG:=λv a H Q=>to a H λo c=>b a c λi d=>t o i v d λe=>Q a e
def Vz(ho:PE X o to)(e:PE X i f)(g:Lj X t)
  (j:∀v,assign (.Subscript o i pos) X.env v=(do
   let a <-holding [v] (eval o X.env)
   let b <-holding [v,a] (eval i X.env)
   standAt pos
   holding [v,a,b] (setItem a b v)
   release [v,a,b] []):=by intro _;rfl):PG X (.Subscript o i pos) (aei to f t):=by
 intro d s c H v u Q I r h;rw[j];refine ag (dZ (thn (ho d s c H _ I h) λa s1 ⟨x,H1,k,l,m⟩=>?_))
 refine ag (dZ (thn (e d s1 c H1 _ k m) λb s2 ⟨y,p,q,w,B⟩=>?_))
 refine ag (wpAny_standAt (ag (dZ (thn (g d s2 c p x y v a b u _ q l w r B) λ_ s3 ⟨C,D,E⟩=>?_))))
 exact wpAny_release ⟨c,C,D,E⟩
def Pz(b:TE)(g:TG):TS:=λD a H=>b a H λx c=>g x a c D.nx
def Ll(he:PE X e d)(f:PG X a g)(i:swapsWithSole [a] e pos.line X.env=pure false:=by rfl)(hw:swappedStores [a] e X.env=pure none:=by rfl)
  (h1:(assignEach [a] X.env).map (·.2)=[assign a X.env]:=by rfl):PS X (.Assign [a] e pos) (Pz d g):=by
 intro b s c H D I h;refine wpAny_Assign_stores (thn (he b s c H _ I h) λv s1 ⟨x,H1,j,k,l⟩=>?_) i hw
 rw[h1];exact thn (f b s1 c H1 x v _ j k l) λ_ m q=>q
def VA(hN:X.N.Nodup)(a:X.N[i]?=some x)(b:Tj X.env.scope x)(he:PE X e c)(d:swapsWith e (some (.Name x f)) pos.line X.env=pure false:=by rfl)(g:X.fn x=true\/X.env.scope.names.lookup x=some .local:=by first | exact .inl rfl | exact .inr rfl | assumption) :
  PS X (.Assign [.Name x f] e pos) (Pz c (gName i)):=by
 intro j s k H D I h;refine wpAny_Assign_Name (thn (he j s k H _ I h) λv s1 ⟨y,H1,l,m,o⟩=>?_) d
 exact tq l hN a b m (λq p=>⟨_,H1,p,o⟩) g
def aej(i:Nat)(b:TE)(c:TIp):TS:=λD a H=>∃x,a[i]?=some (some x)/\b a H λy d=>c x y d λz e=>D.nx (a.set i (some z)) e
def VB(hN:X.N.Nodup)(f:X.N[i]?=some x)(a:Tj X.env.scope x)(he:PE X e j)(ho:PIp X op o)(p:X.fn x=true\/X.env.scope.names.lookup x=some .local:=by first | exact .inl rfl | exact .inr rfl | assumption) :
  PS X (.AugAssign (.Name x Z) op e pos) (aej i j o):=by
 intro b s g H D I h;obtain⟨v,e1,h⟩:=h;obtain⟨m,q,t⟩:=I.loc;have PC:ZA X.env.scope x:=by rcases a with k | k;exact .inl k;exact .inr (.inl k)
 obtain⟨u,r,l⟩:=t i x v f e1 PC;refine wpAny_AugAssign_Name ?_;have go:wpAny (model X.prog X.w) X.A (eval e X.env) (λw B=>wpAny (model X.prog X.w) X.A (inplaceOp op u w) (λr d=>wpAny (model X.prog X.w) X.A (storeName X.env x r) (λ_=>SP X b D .next) X.xe d) X.xe B) X.xe s:=by
  refine thn (he b s g H _ I h) λw s1 ⟨y,H1,C,E,J⟩=>?_
  refine thn (ho b s1 g H1 v y u w _ C r E J) λz s2 ⟨zv,L,M,Q,R⟩=>?_
  exact tq M hN f a Q (λs3 T=>⟨_,L,T,R⟩) p
 rcases l with⟨hk,hm⟩ | ⟨hk,c,hc,Y⟩
 ·exact wpAny_loadName_local I.ok.kind hk q hm go
 ·rcases hk with hk | hk
  ·exact wpAny_loadName_cell I.ok.kind hk hc Y go
  ·rcases a with k | k
   ·have:X.env.scope.names.lookup x=some .free:=hk;rw[k]at this;cases this
   ·have:X.env.scope.names.lookup x=some .free:=hk;rw[k]at this;cases this
end
section
variable {X:Cx} {pos:Pos}
def VC(c:TT)(h:TS):TS:=λD a H=>∃W:Nat->St->Hp->Prop,(∃m,W m a H)/\∀m a H,W m a H ->
 c a H λb d=>if b=true then ∃N:St->Hp->Prop,(∀e f,N e f->∃g,g<m/\W g e f)/\h {D with nx:=N,ct:=N,bk:=D.nx} a d else D.nx a d
def Lm(hp:PassesOwn (model X.prog X.w) X.A X.env X.xe)(hc:PT X c x)(y:PSs X body B):PS X (.While c body [] pos) (VC x B):=by
 intro j s C H D I h;obtain⟨W,⟨E,J⟩,mT⟩:=h;refine wpAny_While (codeAny_whileLoop (λn L=>∃q r,Inv X j q r L/\W n q r) ?_ E ⟨C,H,I,J⟩)
 rintro n s1 ⟨e,H1,M,Q⟩
 refine mL hp (thn (hc j s1 e H1 _ M (mT n e H1 Q)) λb s2 ⟨t,u,g⟩=>?_)
 cases b with
 | true =>
  obtain⟨N,hN,g⟩:=g;rw[if_pos rfl];refine mL hp (thn (y j s2 e t _ u g) λf R i=>?_)
  cases f with
  | next =>
   obtain⟨a,d,k,l⟩:=i;obtain⟨m,o,p⟩:=hN a d l;exact⟨m,o,a,d,k,p⟩
  | cont =>
   obtain⟨a,d,k,l⟩:=i;obtain⟨m,o,p⟩:=hN a d l;exact⟨m,o,a,d,k,p⟩
  | brk=>exact i
  | ret v=>exact i
 | false =>
  rw[if_neg dv];exact yr ⟨e,t,u,g⟩
end
structure It where
 go:Nat->Hp->Prop
 yld:Nat->Hp->V->Hp->Prop
 stop:Nat->Hp->Prop
def yH(X:Cx)(a:List (Addr×Obj))(H:Hp)(b:Addr):Prop :=
 H b=none/\b≠X.env.locals/\b∉X.fs/\(b∈X.ex\/X.s₀.heap.objs.size<=b)/\(∀x c,X.env.cells.lookup x=some c->c≠b)/\∀p∈X.pn++a,p.1≠b
def Inv.IC{X:Cx}{d:List (Addr×Obj)}{σ:St}{H H':Hp}{s:Shared}{b:Addr}(I:Inv X d σ H s)(a:s.heap.objs.size<=b)(f:H' b=none):yH X d H' b:=by
 refine⟨f,sS (cb I.lt a),I.ad6 a,.inr (bA I.sz a),λx c e z=>?_,λp hp z=>?_⟩
 ·obtain⟨v,q⟩:=I.cell x c e;exact absurd (cb q.lt (by grind)) (gU _)
 ·exact absurd (cb (bf (I.pin p hp).1) (by grind)) (gU _)
structure Turn (P:Program) (w:World) (K:W.Frag) (tg:Expr) (J:It) (fp:List Addr) (it:Addr) (tn:Nat->Heap->Prop):Prop where
 mem:it∈fp
 obj:∀i h,tn i h->∀b∈fp,∃o,h.get? b=some o/\∀v,o.data≠.cell v
 keep:∀i h h',tn i h->(∀b∈fp,∀o,h.get? b=some o->h'.get? b=some o)->tn i h'
 item:∀(X:Cx),X.prog=P->X.w=w->X.K=K->X.calm=true->∀(i:Nat) (ae:List (Addr×Obj)) (s:Shared) (σ:St) (H:Hp) (E:Value->Shared->Prop),Inv X ae σ H s->(∀b∈fp,yH X ae H b)->tn i s.heap->J.go i H ->
  wpAny (model P w) X.A (pyNext (.ref it)) (λr s1=>∃u,r=some u /\
   wpAny (model P w) X.A (letOwnedTupleGo tg (.ref it) u) (λ_ s2=>∃x H',Inv X ae σ H' s2/\RelV x u/\J.yld i H x H'/\tn (i+1) s2.heap/\∀b∈fp,H' b=none) E s1) E s
 done:∀(X:Cx),X.prog=P->X.w=w->X.K=K->X.calm=true->∀(i:Nat) (ae:List (Addr×Obj)) (s:Shared) (σ:St) (H:Hp) (E:Value->Shared->Prop),Inv X ae σ H s->(∀b∈fp,yH X ae H b)->tn i s.heap->J.stop i H ->
  wpAny (model P w) X.A (pyNext (.ref it)) (λr s1=>r=none/\Inv X ae σ H s1) E s
 self:∀(A:Around) (i:Nat) (s:Shared) (Q:Value->Shared->Prop) (E:Value->Shared->Prop),tn i s.heap->Q (.ref it) s->wpAny (model P w) A (pyIter (.ref it)) Q E s
abbrev TI:=St->Hp->(It->Hp->Prop)->Prop
def PIE(X:Cx)(d:List (Addr×Obj))(g:St)(h:Expr)(R:It->Hp->Prop)(a:Value)(s2:Shared):Prop :=
 ∃(it:Addr) (e:List Addr) (f:Nat->Heap->Prop) (J:It) (c:Hp),a=.ref it/\Inv X d g c s2/\Turn X.prog X.w X.K h J e it f/\f 0 s2.heap/\(∀b∈e,yH X d c b)/\R J c
def PI(X:Cx)(c a:Expr)(d:TI):Prop :=
 ∀(b:List (Addr×Obj)) (s:Shared) (σ:St) (H:Hp) (R:It->Hp->Prop),Inv X b σ H s->d σ H R ->
  wpAny (model X.prog X.w) X.A (eval a X.env) (λv e=>wpAny (model X.prog X.w) X.A (pyIter v) (PIE X b σ c R) X.xe e) X.xe s
def GA(ho:s.heap.get? it=some o)(hc:o.cls=.type n)(hd:o.data=.fields vs)
  (c:["enumerate","zip","dict_itemiterator","dict_reverseitemiterator","odict_iterator","itertools.zip_longest","itertools.pairwise"].contains n=false) (a:Q () s):wpAny M A (letOwnedTupleGo b (.ref it) u) Q E s:=by
 unfold letOwnedTupleGo;cases b<;>first
  | exact aj a
  | (cases u<;>first
    | exact aj a
    | (refine ag (wpAny_load ho ?_)
       rw[hc,hd];show wpAny M A (if(["enumerate","zip","dict_itemiterator","dict_reverseitemiterator","odict_iterator","itertools.zip_longest","itertools.pairwise"].contains n&&vs[0]?==some (rawInt _))=true then _ else _) Q E s
       rw[if_neg (by grind)]
       exact aj a))
def Itl(K:W.Frag)(a:Addr):It :=
 ⟨λi H=>∃b x,yG K H a b/\b[i]?=some x,λi H x c=>c=H/\∀b,yG K H a b->b[i]?=some x,λi H=>∃b,yG K H a b/\b.length<=i⟩
def Itt(K:W.Frag)(a:Addr):It :=
 ⟨λi H=>∃b x,iG K H a b/\b[i]?=some x,λi H x c=>c=H/\∀b,iG K H a b->b[i]?=some x,λi H=>∃b,iG K H a b/\b.length<=i⟩
def ZQ(lo:Int)(n:Nat):It:=⟨λi _=>i<n,λi H x a=>a=H/\x=.int (lo+i),λi _=>n<=i⟩
def ID{P:Program}{w:World}{K:W.Frag}{Q:Expr}(a it:Addr):Turn P w K Q (Itl K a) [it] it (λi h=>h.IsListIter it a i) where
 mem:=by simp
 obj:=λi h f b g=>by
  have e:b=it:=by grind
  subst e;obtain⟨o,e,c,d⟩:=f;exact⟨o,e,λv z=>by grind⟩
 keep:=λi h M f k=>f.at λo e=>k it (by simp) o e
 item:=by
  intro X m hw q hc i R s T H E I j f r;subst m hw q;obtain⟨Y,x,l,t⟩:=r;obtain⟨Z,y,p,hz⟩:=I.list l;obtain⟨u,hu,ru⟩:=y.get t;obtain⟨B,C,f2,D,J,L⟩:=j it (by simp)
  refine wpAny_pyNext_list_item f p.isList (by simpa using hu) λM N sb=>?_
  have I1:=I.turned (t':=s.toks) (λb o g e=>(sb.2 b g).trans e) B C D J L
  obtain⟨o,e,c,d⟩:=id N;exact⟨u,rfl,GA e c d (by decide) ⟨x,H,I1,ru,⟨rfl,λys hy=>by rw[I.nH hy l];exact t⟩,N,λb g=>(j b g).1⟩⟩
 done:=by
  intro X m hw q hc i R s T H E I j f r;subst m hw q;obtain⟨Y,l,t⟩:=r;obtain⟨Z,y,p,hz⟩:=I.list l;obtain⟨B,C,f2,D,J,L⟩:=j it (by simp)
  have hl:=y.length;exact wpAny_pyNext_list_end (I.ok.hd hc) f p.isList (by simp;lia) λM eb=>⟨rfl,I.turned (λb o g e=>eb b o g e) B C D J L⟩
 self:=λ_ _ _ _ _ f h=>wpAny_pyIter_listiter f h
def Em{P:Program}{w:World}{K:W.Frag}{Q:Expr}(a it:Addr):Turn P w K Q (Itt K a) [it] it (λi h=>h.IsTupleIter it a i) where
 mem:=by simp
 obj:=λi h f b g=>by
  have e:b=it:=by grind
  subst e;obtain⟨o,e,c,d⟩:=f;exact⟨o,e,λv z=>by grind⟩
 keep:=λi h M f k=>f.at λo e=>k it (by simp) o e
 item:=by
  intro X m hw q hc i R s T H E I j f r;subst m hw q;obtain⟨Y,x,l,t⟩:=r;obtain⟨Z,y,p,hz⟩:=I.tuple l;obtain⟨u,hu,ru⟩:=y.get t;obtain⟨B,C,f2,D,J,L⟩:=j it (by simp)
  refine wpAny_pyNext_tuple_item f (p) (by simpa using hu) λM N sb=>?_
  have I1:=I.turned (t':=s.toks) (λb o g e=>(sb.2 b g).trans e) B C D J L
  obtain⟨o,e,c,d⟩:=id N;exact⟨u,rfl,GA e c d (by decide) ⟨x,H,I1,ru,⟨rfl,λys hy=>by rw[I.lD hy l];exact t⟩,N,λb g=>(j b g).1⟩⟩
 done:=by
  intro X m hw q hc i R s T H E I j f r;subst m hw q;obtain⟨Y,l,t⟩:=r;obtain⟨Z,y,p,hz⟩:=I.tuple l;obtain⟨B,C,f2,D,J,L⟩:=j it (by simp)
  have hl:=y.length;exact wpAny_pyNext_tuple_end (I.ok.hd hc) f (p) (by simp;lia) λM eb=>⟨rfl,I.turned (λb o g e=>eb b o g e) B C D J L⟩
 self:=λ_ _ _ _ _ f h=>wpAny_pyIter_tupleiter f h
def En{P:Program}{w:World}{K:W.Frag}{C:Expr}(it:Addr)(lo:Int)(n:Nat):Turn P w K C (ZQ lo n) [it] it (λi h=>IsRangeIter h it (lo+(i:Nat)*1) ((n:Int)-(i:Nat)) 1) where
 mem:=by simp
 obj:=λi h a b c=>by
  grind
 keep:=λi h f a k=>k it (by simp) _ a
 item:=by
  intro X g hw j hc i x s y H E I d a l;subst g hw j;obtain⟨m,p,D,q,r,u⟩:=d it (by simp)
  have W:=Walks.range (prog:=X.prog) (w:=X.w) (I.ok.hd hc) it lo 1 n;refine W.item i s _ _ l a λv f J L B M=>?_
  obtain⟨t,rfl⟩:=L;have N:Inv X x y H {s with heap:=f,toks:=J}:=I.turned (λb o c e=>M b o (by grind) e) m p q r u
  refine⟨_,rfl,GA B rfl rfl (by decide) ⟨.int (lo+i),H,N,⟨t,?_⟩,⟨rfl,rfl⟩,B,λb c=>(d b c).1⟩⟩
  rw[Int.mul_one]
 done:=by
  intro X g hw j hc i x s y H E I d a l;subst g hw j;obtain⟨m,p,D,q,r,u⟩:=d it (by simp)
  exact wpAny_pyNext_range_end (I.ok.hd hc) a (by have:n<=i:=l;lia) λf Q=>⟨rfl,I.turned (λb o c e=>Q b o c e) m p q r u⟩
 self:=λ_ _ _ _ _ a h=>wpAny_pyIter_rangeiter a h
section
variable {X:Cx} {tg:Expr}
def ZR(K:W.Frag)(c:TE):TI:=λd H R=>c d H λx b=>∃a,x=.ref a/\(∃e,yG K b a e)/\R (Itl K a) b
def aen(K:W.Frag)(c:TE):TI:=λd H R=>c d H λx b=>∃a,x=.ref a/\(∃e,iG K b a e)/\R (Itt K a) b
def GB{l:Expr}{d:TE}(f:PE X l d):PI X tg l (ZR X.K d):=by
 intro g s i H R I h;refine thn (f g s i H _ I h) λv s1 ⟨x,H1,c,j,k⟩=>?_
 obtain⟨a,e,⟨r,m⟩,q⟩:=k;subst e;cases j;obtain⟨t,u,p,w⟩:=c.list m;refine D2 p.isList ?_;refine⟨s1.heap.objs.size,[s1.heap.objs.size],_,_,H1,rfl,c.kept λb o e=>bj _ e,ID a _,⟨_,cx _ rfl,rfl,rfl⟩,λb y=>?_,q⟩
 have e:b=s1.heap.objs.size:=by grind
 subst e;exact c.IC (au _) (c.hok.fresh (au _))
def Lo{l:Expr}{d:TE}(f:PE X l d):PI X tg l (aen X.K d):=by
 intro g s i H R I h;refine thn (f g s i H _ I h) λv s1 ⟨x,H1,c,j,k⟩=>?_
 obtain⟨a,e,⟨r,m⟩,q⟩:=k;subst e;cases j;obtain⟨t,u,p,w⟩:=c.tuple m;refine DW (p) ?_;refine⟨s1.heap.objs.size,[s1.heap.objs.size],_,_,H1,rfl,c.kept λb o e=>bj _ e,Em a _,⟨_,cx _ rfl,rfl,rfl⟩,λb y=>?_,q⟩
 have e:b=s1.heap.objs.size:=by grind
 subst e;exact c.IC (au _) (c.hok.fresh (au _))
def Bc{c:List (Addr×Obj)}{d:St}{H:Hp}{s:Shared}{R:It->Hp->Prop}{E:Value->Shared->Prop}{lo a:Int}{t u v:Tok}{tk:Nat}(I:Inv X c d H s)(h1:-(2^62)<=lo)(g:lo<2^62)(h:-(2^62)<=a)(i:a<2^62)
  (q:R (ZQ lo (a-lo).toNat) H):wpAny (model X.prog X.w) X.A (pyIter (.ref s.heap.objs.size)) (PIE X c d tg R) E {s with heap:=s.heap.push {cls:=.type "range",data:=.fields #[.int lo t,.int a u,.int 1 v]},toks:=tk}:=by
 refine wpAny_pyIter_range (IsRange.new ..) (small_one h1 g h i) ?_;have f:Inv X c d H {s with heap:=s.heap.push {cls:=.type "range",data:=.fields #[.int lo t,.int a u,.int 1 v]},toks:=tk}:=I.kept λb o e=>bj _ e
 refine⟨(s.heap.push {cls:=.type "range",data:=.fields #[.int lo t,.int a u,.int 1 v]}).objs.size,[(s.heap.push {cls:=.type "range",data:=.fields #[.int lo t,.int a u,.int 1 v]}).objs.size],_,_,H,rfl,
  f.kept λb o e=>bj _ e,En _ lo (a-lo).toNat,?_,λb k=>?_,q⟩
 ·have e1:lo+(0:Nat)*1=lo:=by simp
  have j:(((a-lo).toNat:Nat):Int)-(0:Nat)=Builtin.Range.rangeSize lo a 1:=by rw[rangeSize_one];split<;>lia
  rw[e1,j];exact cx _ rfl
 ·have e:b=(s.heap.push {cls:=.type "range",data:=.fields #[.int lo t,.int a u,.int 1 v]}).objs.size:=by grind
  subst e;exact f.IC (au _) (f.hok.fresh (au _))
def ZS(a:TA):TI:=λb H R=>a b H λc d=>∃j:Int,c=[.int j] /\ -(2^62)<=j/\j<2^62/\R (ZQ 0 j.toNat) d
def ZT(a:TA):TI:=λb H R=>a b H λc d=>∃i j:Int,c=[.int i,.int j]/\(-(2^62)<=i/\i<2^62 /\ -(2^62)<=j/\j<2^62)/\R (ZQ i (j-i).toNat) d
def IE{a:Expr}{c:TA}{p pos:Pos}(d:Gl X "range")(f:X.mg "range"=none)(g:PA X [a] c)(i:starEach [a] X.env=[(false,eval a X.env)]:=by rfl):PI X tg (.Call (.Name "range" p) [a] [] pos) (ZS c):=by
 intro k s l H R I h;refine Call_ (ld_blt I d f boot_range (kA (thn (g pos k s l H _ I h) λus s1 ⟨w,H1,m,o,b⟩=>?_) i rfl))
 obtain⟨j,e,b,u,q⟩:=b;subst e;cases o with
 | cons r v =>
  cases v;obtain⟨t,rfl⟩:=r;exact call_range_1 (Bc m (by lia) (by lia) b u (by grind))
def IF{a b:Expr}{f:TA}{p pos:Pos}(g:Gl X "range")(k:X.mg "range"=none)(l:PA X [a,b] f)(D:starEach [a,b] X.env=[(false,eval a X.env),(false,eval b X.env)]:=by rfl)(m:starEach [b] X.env=[(false,eval b X.env)]:=by rfl) :
  PI X tg (.Call (.Name "range" p) [a,b] [] pos) (ZT f):=by
 intro o s u H R I h;refine Call_ (ld_blt I g k boot_range (kA (thn (l pos o s u H _ I h) λus s1 ⟨E,H1,v,w,c⟩=>?_) (by grind) (by rw[m];rfl)))
 obtain⟨i,j,e,⟨c,x,y,B⟩,q⟩:=c;subst e;cases w with
 | cons r d =>
  cases d with
  | cons C d =>
   cases d;obtain⟨t,rfl⟩:=r;obtain⟨J,rfl⟩:=C;exact call_range_2 (Bc v c x y B q)
def aeo(e:TI)(g:TG)(f:TS):TS:=λD a H=>e a H λJ h=>∃W:Nat->Nat->St->Hp->Prop,(∃m,W 0 m a h)/\∀i m a H,W i m a H ->
 (J.stop i H/\D.nx a H)\/(J.go i H/\∃N:St->Hp->Prop,(∀c b,N c b->∃d,d<m/\W (i+1) d c b)/\∀x b,J.yld i H x b->g x a b λj k=>f {D with nx:=N,ct:=N,bk:=D.nx} j k)
def tw(a:List Addr)(h:Heap):List (Addr×Obj):=a.filterMap λb=>(h.get? b).map λo=>(b,o)
def jM(a:b∈c)(e:h.get? b=some o):(b,o)∈tw c h:=sE.mpr ⟨b,a,by rw[e];rfl⟩
def IG(hp:p∈tw a h):p.1∈a/\h.get? p.1=some p.2:=by
 obtain⟨b,c,e⟩:=sE.mp hp;cases q:h.get? b with
 | none=>rw[q]at e;cases e
 | some o =>
  rw[q]at e;have d:=cD e;subst d;exact⟨c,q⟩
def Inv.pinned{a:List (Addr×Obj)}{σ:St}{H:Hp}{s:Shared}{c:List Addr}(I:Inv X a σ H s)(h:∀b∈c,yH X a H b)(ho:∀b∈c,∃o,s.heap.get? b=some o/\∀v,o.data≠.cell v):Inv X (a++tw c s.heap) σ H s :=
 I.nE λp hp=>(bI.mp hp).elim (λz=>I.pin p (dN _ z)) λz=>by
  obtain⟨f,e⟩:=IG z;obtain⟨j,k,l,_⟩:=h p.1 f;obtain⟨o,g,d⟩:=ho p.1 f;rw[e]at g;cases g;exact⟨e,j,k,l,d⟩
def Inv.tx{a pl:List (Addr×Obj)}{σ:St}{H:Hp}{s:Shared}(I:Inv X (a++pl) σ H s):Inv X a σ H s:=I.nE λp hp=>I.pin p (dN _ (ik _ hp))
def Lp(hp:PassesOwn (model X.prog X.w) X.A X.env X.xe)(hc:X.calm=true)(hi:PI X tg iter wi)(hg:PG X tg g)(a:PSs X body tb)
  (hs:∀x,foldedSetIterable iter X.env x=pure x:=by intro _;rfl):PS X (.For tg iter body [] pos) (aeo wi g tb):=by
 intro t s σ H D I h;refine wpAny_For (thn (hi t s σ H _ I h) λv s1 h1=>thn h1 λitv s2 h2=>?_) hs
 obtain⟨it,y,tn,J,H2,e,I2,T,Q,f2,W,⟨m0,w0⟩,mT⟩:=h2;subst e;have R:∀{p:Hp},(∀b∈y,p b=none)->∀b∈y,yH X t p b:=λhn b a=>⟨hn b a,(f2 b a).2⟩
 refine codeAny_forLoop_any (λn s'=>∃i B p,Inv X t B p s'/\tn i s'.heap/\(∀b∈y,p b=none)/\W i n B p) ?_ m0 ⟨0,σ,H2,I2,Q,λb a=>(f2 b a).1,w0⟩
 rintro n s3 ⟨i,C,M,I3,vp,E,w3⟩
 rcases mT i n C M w3 with⟨stop,qn⟩ | ⟨go,N,hN,step⟩
 ·refine mL hp (thn (T.done X rfl rfl rfl hc i t s3 C M X.xe I3 (R E) vp stop) λr s4 ⟨Y,I4⟩=>?_)
  subst Y;exact yr ⟨C,M,I4,qn⟩
 ·refine mL hp (thn (T.item X rfl rfl rfl hc i t s3 C M X.xe I3 (R E) vp go) λr s4 ⟨u,Y,h4⟩=>?_)
  subst Y;refine mL hp (thn h4 λ_ s5 z9=>?_)
  obtain⟨x,H5,I5,r5,y5,Z,fr5⟩:=z9;have I5':=I5.pinned (R fr5) (T.obj _ _ Z);refine mL hp (thn (hg _ s5 C H5 x u _ I5' r5 (step x H5 y5)) λ_ s6 ⟨σ6,H6,I6,q6⟩=>?_)
  refine mL hp (thn (a _ s6 σ6 H6 _ I6 q6) λf s7 q=>?_)
  have c:∀{j:St} {k:Hp},Inv X (t++tw y s5.heap) j k s7->N j k->∃m,m<n/\∃i B p,Inv X t B p s7/\tn i s7.heap/\(∀b∈y,p b=none)/\W i m B p:=λ{j k} l L=>by
   obtain⟨m',hm,w7⟩:=hN j k L;refine⟨m',hm,i+1,j,k,l.tx,T.keep _ _ _ Z λb a o e=>(l.pin (b,o) (dN _ (dN _ (jM a e)))).1,λb a=>?_,w7⟩
   obtain⟨o,e,d⟩:=T.obj _ _ Z b a;exact(l.pin (b,o) (dN _ (dN _ (jM a e)))).2.1
  cases f with
  | next=>obtain⟨j,k,l,L⟩:=q;exact c l L
  | cont=>obtain⟨j,k,l,L⟩:=q;exact c l L
  | brk=>obtain⟨j,k,l,q⟩:=q;exact⟨j,k,l.tx,q⟩
  | ret v=>obtain⟨x7,j,k,l,r7,q⟩:=q;exact⟨x7,j,k,l.tx,r7,q⟩
end
abbrev R2:=V->V->Hp->VK->Prop
def OpR(X:Cx)(f:Value->Value->Sem Value)(r:R2):Prop :=
 ∀(a:List (Addr×Obj)) (s:Shared) (σ:St) (H:Hp) (x y:V) (v u:Value) (Q:VK),Inv X a σ H s->RelV x v->RelV y u->r x y H Q ->
  wpAny (model X.prog X.w) X.A (f v u) (EP X a σ Q) X.xe s
def UnR(X:Cx)(f:Value->Sem Value)(r:V->Hp->VK->Prop):Prop :=
 ∀(a:List (Addr×Obj)) (s:Shared) (σ:St) (H:Hp) (x:V) (v:Value) (Q:VK),Inv X a σ H s->RelV x v->r x H Q ->
  wpAny (model X.prog X.w) X.A (f v) (EP X a σ Q) X.xe s
def nI(X:Cx)(f:Value)(r:List V->Hp->VK->Prop):Prop :=
 ∀(a:List (Addr×Obj)) (s:Shared) (σ:St) (H:Hp) (xs:List V) (us:List Value) (Q:VK),Inv X a σ H s->Vals xs us->r xs H Q ->
  wpAny (model X.prog X.w) X.A (call f us) (EP X a σ Q) X.xe s
def aer(X:Cx)(r:V->Hp->(Bool->Hp->Prop)->Prop):Prop :=
 ∀(a:List (Addr×Obj)) (s:Shared) (σ:St) (H:Hp) (x:V) (v:Value) (Q:Bool->Hp->Prop),Inv X a σ H s->RelV x v->r x H Q ->
  wpAny (model X.prog X.w) X.A (truthy v) (TP X a σ Q) X.xe s
def Y5(r:R2)(b c:TE):TE:=λa H Q=>b a H λx d=>c a d λy e=>r x y e Q
def tUn(r:V->Hp->VK->Prop)(a:TE):TE:=λb H Q=>a b H λx c=>r x c Q
def rI(C:Int->Int->Prop)(g:Int->Int->V):R2:=λx y H Q=>∃i j,x=.int i/\y=.int j/\C i j/\Q (g i j) H
def PD(g:Int->Int->V):R2:=λx y H Q=>∃i j,x=.int i/\y=.int j/\Q (g i j) H
def rU(g:Int->V):V->Hp->VK->Prop:=λx H Q=>∃i,x=.int i/\Q (g i) H
section
variable {X:Cx} {a b c:Expr} {ta tb tc:TE} {pos:Pos}
def PF(k:PE X a ta)(l:PE X b tb){i:List (Addr×Obj)}{s:Shared}{d:St}{H:Hp}{R:V->V->Hp->Prop}(I:Inv X i d H s)
  (h:ta d H λx j=>tb d j λy e=>R x y e) {Q:Value->Shared->Prop} {f:Value->Value->Sem Value}
  (m:∀v u s2 x y e,Inv X i d e s2->RelV x v->RelV y u->R x y e->wpAny (model X.prog X.w) X.A (f v u) Q X.xe s2) :
  wpAny (model X.prog X.w) X.A (eval a X.env) (λv g=>wpAny (model X.prog X.w) X.A (eval b X.env) (λu o=>wpAny (model X.prog X.w) X.A (f v u) Q X.xe o) X.xe g) X.xe s:=by
 refine thn (k i s d H _ I h) λv s1 ⟨x,j,p,q,r⟩=>?_
 refine thn (l i s1 d j _ p r) λu s2 ⟨y,e,t,B,C⟩=>?_
 exact m v u s2 x y e t q B C
def ZU(ho:OpR X (binaryOp op) r)(d:PE X a ta)(e:PE X b tb):PE X (.BinOp a op b pos) (Y5 r ta tb):=by
 intro f s g H Q I h;exact wpAny_BinOp (PF d e I h λv u i x y j k l m q=>ho f i g j x y v u Q k l m q)
def ZV{r:V->Hp->VK->Prop}(ho:UnR X (unaryOp op) r)(f:PE X a ta):PE X (.UnaryOp op a pos) (tUn r ta):=by
 intro d s e H Q I h;exact UnaryOp_ (thn (f d s e H _ I h) (by rintro v s1 ⟨x,H1,g,i,j⟩;exact ho d s1 e H1 x v Q g i j))
def opI{f:Value->Value->Sem Value}{C:Int->Int->Prop}{g:Int->Int->Int}
  (d:∀(i j:Int) (t u:Tok) (s:Shared) (Q:Value->Shared->Prop) (E:Value->Shared->Prop),C i j->Q (.int (g i j) s.toks) {s with toks:=s.toks+1}->wpAny (model X.prog X.w) X.A (f (.int i t) (.int j u)) Q E s) :
  OpR X f (rI C λi j=>.int (g i j)):=by
 intro m s o H x y v u Q I e k h;obtain⟨i,j,rfl,rfl,hc,q⟩:=h;obtain⟨t,rfl⟩:=e;obtain⟨l,rfl⟩:=k;exact d i j t l s _ _ hc ⟨.int (g i j),H,I.tok _,⟨_,rfl⟩,q⟩
def VE{f:Value->Value->Sem Value}{g:Int->Int->Int}
  (d:∀(i j:Int) (t u:Tok) (s:Shared) (Q:Value->Shared->Prop) (E:Value->Shared->Prop),Q (.int (g i j) s.toks) {s with toks:=s.toks+1}->wpAny (model X.prog X.w) X.A (f (.int i t) (.int j u)) Q E s) :
  OpR X f (PD λi j=>.int (g i j)):=by
 intro m s o H x y v u Q I e k h;obtain⟨i,j,rfl,rfl,q⟩:=h;obtain⟨t,rfl⟩:=e;obtain⟨l,rfl⟩:=k;exact d i j t l s _ _ ⟨.int (g i j),H,I.tok _,⟨_,rfl⟩,q⟩
def VF{f:Value->Value->Sem Value}{g:Int->Int->Bool}
  (d:∀(i j:Int) (t u:Tok) (s:Shared) (Q:Value->Shared->Prop) (E:Value->Shared->Prop),Q (.bool (g i j)) s->wpAny (model X.prog X.w) X.A (f (.int i t) (.int j u)) Q E s) :
  OpR X f (PD λi j=>.bl (g i j)):=by
 intro m s o H x y v u Q I e k h;obtain⟨i,j,rfl,rfl,q⟩:=h;obtain⟨t,rfl⟩:=e;obtain⟨l,rfl⟩:=k;exact d i j t l s _ _ ⟨.bl (g i j),H,I,rfl,q⟩
def aes(i j:Int):Prop:=0<j/\j<1073741824
def aet(i j:Int):Prop:=0<=j/\j<=1000000/\i.natAbs<2^64
def VG(i j:Int):Prop:=(-(2^64)<i/\i<2^64)\/(-(2^64)<j/\j<2^64)
def VG.ok(h:VG i j):IntMulOk i j:=by
 rcases h with⟨d,e⟩ | ⟨d,e⟩
 ·exact .of_left (intBits_le_64 d e)
 ·exact .of_right (intBits_le_64 d e)
def VH:OpR X (binaryOp .Add) (PD λi j=>.int (i+j)):=VE λ_ _ _ _ _ _ _ q=>add_int q
def VI:OpR X (binaryOp .Sub) (PD λi j=>.int (i-j)):=VE λ_ _ _ _ _ _ _ q=>sub_int q
def VJ:OpR X (binaryOp .Mult) (rI VG λi j=>.int (i*j)):=opI λ_ _ _ _ _ _ _ hc q=>mul_int q hc.ok
def PH:OpR X (binaryOp .FloorDiv) (rI aes λi j=>.int (i/j)):=opI λi j _ _ _ _ _ hc q=>by
 have d:=hc.1;have e:=hc.2;exact floordiv_int (by lia) (by rw[Int.fdiv_eq_ediv_of_nonneg i (by lia)];exact q) (.inl (PyProof.noPylong_small (by lia)))
def VL:OpR X (binaryOp .Mod) (rI (λ_ j=>0<j) λi j=>.int (i%j)):=opI λi j _ _ _ _ _ hc q=>by
 have d:=hc;exact mod_int' (by lia) (by rw[Int.fmod_eq_emod_of_nonneg i (by lia)];exact q)
def VM:OpR X (binaryOp .Pow) (rI aet λi j=>.int (i^j.toNat)):=opI λ_ _ _ _ _ _ _ hc q=>pow_int_small hc.1 hc.2.1 hc.2.2 q
def PJ:OpR X (inplaceOp .Add) (PD λi j=>.int (i+j)):=VE λ_ _ _ _ _ _ _ q=>iadd_int q
def unI{f:Value->Sem Value}{g:Int->Int}
  (d:∀(i:Int) (t:Tok) (s:Shared) (Q:Value->Shared->Prop) (E:Value->Shared->Prop),Q (.int (g i) s.toks) {s with toks:=s.toks+1}->wpAny (model X.prog X.w) X.A (f (.int i t)) Q E s) :
  UnR X f (rU λi=>.int (g i)):=by
 intro j s k H x v Q I e h;obtain⟨i,rfl,q⟩:=h;obtain⟨t,rfl⟩:=e;exact d i t s _ _ ⟨.int (g i),H,I.tok _,⟨_,rfl⟩,q⟩
def VN:UnR X (unaryOp .USub) (rU λi=>.int (-i)):=unI λ_ _ _ _ _ q=>neg_int q
end
section
variable {X:Cx} {a b c:Expr} {ta tb tc:TE} {pos:Pos}
def Lr{d:List (Addr×Obj)}{f:St}{H:Hp}{s:Shared}{Q:VK}{k k':Bool}(I:Inv X d f H s)(q:Q (.bl k) H)(e:k=k'):EP X d f Q (.bool k') s:=by
 subst e;exact⟨.bl k,H,I,rfl,q⟩
def ZW:OpR X (compareOp .Lt) (PD λi j=>.bl (decide (i<j))):=VF λ_ _ _ _ _ _ _ q=>lt_int q
def ZX:OpR X (compareOp .LtE) (PD λi j=>.bl (decide (i<=j))):=VF λ_ _ _ _ _ _ _ q=>le_int q
def ZY:OpR X (compareOp .GtE) (PD λi j=>.bl (decide (j<=i))):=VF λ_ _ _ _ _ _ _ q=>ge_int q
def VO:OpR X (compareOp .Is) (λx y H Q=>y=.bM/\Q (.bl (decide (x=.bM))) H):=by
 intro f s g H x y v u Q I d e h;obtain⟨rfl,q⟩:=h;cases e;refine is_none_gen (Lr I q ?_);cases x<;>first
  | (cases d;rfl)
  | (obtain⟨t,rfl⟩:=d;rfl)
def PK:OpR X (compareOp .IsNot) (λx y H Q=>y=.bM/\Q (.bl (!decide (x=.bM))) H):=by
 intro f s g H x y v u Q I d e h;obtain⟨rfl,q⟩:=h;cases e;refine isnot_none_gen (Lr I q ?_);cases x<;>first
  | (cases d;rfl)
  | (obtain⟨t,rfl⟩:=d;rfl)
def PL(ho:OpR X (compareOp op) r)(d:PE X a ta)(e:PE X b tb)(f:behindInMarks op b=false):PE X (.Compare a [op] [b] pos) (Y5 r ta tb):=by
 intro g s i H Q I h;exact wpAny_Compare1 (PF d e I h λv u j x y k l m o q=>ho g j i k x y v u Q l m o q) f
def Ts(t:TE):TT:=λd H Q=>t d H λx e=>∃k,x=.bl k/\Q k e
def PM(ho:OpR X (compareOp op) r)(g:PE X a ta)(i:PE X b tb)(j:behindInMarks op b=false):PT X (.Compare a [op] [b] pos) (Ts (Y5 r ta tb)):=by
 intro d s f H Q I h;refine wpAny_isTrue_Compare1 (thn (g d s f H _ I h) λv s1 ⟨x,H1,l,m,o⟩=>thn (i d s1 f H1 _ l o) λu s2 ⟨y,p,q,t,w⟩ =>
  thn (ho d s2 f p x y v u _ q m t w) λc s3 ⟨z,B,C,D,k,e,E⟩=>?_) j
 subst e;cases D;exact mI ⟨B,C,E⟩
def Ep(r f:R2)(ta tb tc:TE):TE:=λd H Q=>ta d H λx g=>tb d g λy h=>r x y h λz e=>∃k,z=.bl k /\
 (if k=true then tc d e λi j=>f y i j Q else Q (.bl false) e)
def Ls(ho:OpR X (compareOp op) r)(p:OpR X (compareOp i) q)(t:PE X a ta)(w:PE X b tb)(hc:PE X c tc)
  (B:lastMarks [op,i] [b,c]=false:=by with_unfolding_all rfl):PE X (.Compare a [op,i] [b,c] pos) (Ep r q ta tb tc):=by
 intro f s g H Q I h;refine Compare_chain (thn (t f s g H _ I h) λv s1 ⟨x,H1,C,D,E⟩=>chain_link (thn (w f s1 g H1 _ C E) λu s2 ⟨y,J,L,j,M⟩ =>
  thn (ho f s2 g J x y v u _ L D j M) λd s3 ⟨z,l,m,N,k,e,o⟩=>?_)) B
 subst e;cases N;refine mI ?_;cases k with
 | false=>exact ite_ff ⟨.bl false,l,m,rfl,o⟩
 | true=>exact ite_tt (chain_last (thn (hc f s3 g l _ m o) (by rintro R s4 ⟨T,Y,Z,r4,q4⟩;exact p f s4 g Y y T u R Q Z j r4 q4)))
def Lu(ho:OpR X (compareOp op) r)(p:OpR X (compareOp i) q)(t:PE X a ta)(w:PE X b tb)(hc:PE X c tc)
  (B:lastMarks [op,i] [b,c]=false:=by with_unfolding_all rfl):PT X (.Compare a [op,i] [b,c] pos) (Ts (Ep r q ta tb tc)):=by
 intro f s g H Q I h;refine isTrue_chain (thn (t f s g H _ I h) λv s1 ⟨x,H1,C,D,E⟩=>test_link (thn (w f s1 g H1 _ C E) λu s2 ⟨y,J,L,j,M⟩ =>
  thn (ho f s2 g J x y v u _ L D j M) λd s3 ⟨z,l,m,N,k,e,o⟩=>?_)) B
 subst e;cases N;refine mI ?_;cases k with
 | false =>
  obtain⟨k',R,T⟩:=o;cases R;exact ite_ff ⟨l,m,T⟩
 | true =>
  refine ite_tt (test_last (thn (hc f s3 g l _ m o) λY s4 ⟨Z,H4,I4,r4,q4⟩=>thn (p f s4 g H4 y Z u Y _ I4 j r4 q4) λd' s5 z9=>?_))
  obtain⟨z2,H5,I5,r5,k2,e2,q5⟩:=z9;subst e2;cases r5;exact mI ⟨H5,I5,q5⟩
def PN(K:W.Frag)(x:V)(H:Hp)(k:Bool):Prop :=
 match x with
 | .bM=>k=false
 | .bl b=>k=b
 | .int i=>k=(i != 0)
 | .str y=>y.length<=sizeLine/\k=((y.length:Int) != 0)
 | .Y1 y=>y.size<=sizeLine/\k=((y.size:Int) != 0)
 | .ref p=>(∃d,yG K H p d/\k = !d.isEmpty)\/(∃d,iG K H p d/\k = !d.isEmpty)\/∃e,H p=some (.dK e)/\k = !e.isEmpty
 | _=>False
def Er{d:Type}{kvs:List (d×V)}{vs:List (d×Value)}(r:KV kvs vs):(!vs.isEmpty) = !kvs.isEmpty:=by
 cases r<;>rfl
def tD(r:Vals xs d):(!d.toArray.isEmpty) = !xs.isEmpty:=by
 cases r<;>simp
def mU:(sizeLine:Nat)<2^63:=by rw[yz];decide
def Lv:aer X (λx H Q=>∃k,PN X.K x H k/\Q k H):=by
 intro D s E H x v Q I f h;obtain⟨k,e,q⟩:=h;have J:=mU;have L:=yz;cases x with
 | bM =>
  cases f;have d:=e;subst d;exact truthy_none ⟨H,I,q⟩
 | bl b =>
  cases f;have d:=e;subst d;exact mI ⟨H,I,q⟩
 | int i =>
  obtain⟨t,rfl⟩:=f;have d:=e;subst d;exact PySem.P.truthy_int ⟨H,I,q⟩
 | str y =>
  obtain⟨t,rfl⟩:=f;obtain⟨B,d⟩:y.length<=sizeLine/\k=((y.length:Int) != 0):=e;subst d;exact PySem.P.truthy_str (by lia) ⟨H,I.tok _,q⟩
 | Y1 y =>
  obtain⟨t,rfl⟩:=f;obtain⟨B,d⟩:y.size<=sizeLine/\k=((y.size:Int) != 0):=e;subst d;exact W.truthy_bytes (by lia) ⟨H,I.tok _,q⟩
 | ref p =>
  cases f;have d:=e;rcases d with⟨xs,g,d⟩ | ⟨xs,g,d⟩ | ⟨j,g,d⟩
  ·subst d;obtain⟨C,r,pl,o⟩:=I.list g;have u:=r.length;exact wpAny_truthy_list pl.isList (by grind) ⟨H,I.tok _,by rw[tD r];exact q⟩
  ·subst d;obtain⟨C,r,pl,o⟩:=I.tuple g;have u:=r.length;exact truthy_tuple pl (by grind) ⟨H,I.tok _,by rw[tD r];exact q⟩
  ·subst d;obtain⟨o,hS,l,r,m⟩:j.length<=sizeLine/\(p==sysModules)=false/\∃l,KV j l/\s.heap.DictOf (cB X.prog X.w) p l:=I.hok p _ g
   have u:=pK r;exact wpAny_truthy_dict hS m (by lia) ⟨H,I.tok _,by rw[Er r];exact q⟩
 | _=>exact(e).elim
def Lw(g:PE X a ta)(he:∀e,isTrue a X.env e=(do let v <-e;standAt a.pos;holding [v] (truthy v))) :
  PT X a (λd H Q=>ta d H λx H'=>∃k,PN X.K x H' k/\Q k H'):=by
 intro f s d H Q I h;exact isTrue_plain (thn (g f s d H _ I h) (by rintro v s1 ⟨x,H1,i,j,l⟩;exact Lv f s1 d H1 x v Q i j l)) (he _)
def Es:OpR X (binaryOp .Add) (λx y H Q=>∃i j,x=.str i/\y=.str j/\i.length+j.length<=sizeLine/\Q (.str (i++j)) H):=by
 intro k s l H x y v u Q I d e h;obtain⟨i,j,rfl,rfl,f,q⟩:=h;obtain⟨t,rfl⟩:=d;obtain⟨g,rfl⟩:=e;exact add_str (λg m=>⟨.str (i++j),H,I.tok _,⟨_,rfl⟩,q⟩) f
def j9(r:Vals [x] us):∃u,us=[u]/\RelV x u:=by
 cases r with
 | cons d e=>cases e;exact⟨_,rfl,d⟩
def Tt(r:Vals [x,y] us):∃u d,us=[u,d]/\RelV x u/\RelV y d:=by
 cases r with
 | cons e f =>
  cases f with
  | cons g h=>cases h;exact⟨_,_,rfl,e,g⟩
def wx:nI X (.type "int") (λxs H Q=>(∃i,xs=[.int i]/\Q (.int i) H)\/∃k,xs=[.bl k]/\Q (.int (if k then 1 else 0)) H):=by
 intro e s f H xs g Q I r h;rcases h with⟨i,rfl,q⟩ | ⟨k,rfl,q⟩
 ·obtain⟨u,rfl,t,rfl⟩:=j9 r;exact call_int_int ⟨.int i,H,I,⟨_,rfl⟩,q⟩
 ·obtain⟨u,rfl,d⟩:=j9 r;cases d;exact call_int_bool ⟨.int (if k then 1 else 0),H,I.tok _,⟨_,rfl⟩,q⟩
def yI:nI X (.type "str") (λxs H Q=>∃i,xs=[.int i]/\i.natAbs.log2<1920/\Q (.str (toString i)) H):=by
 intro e s f H xs g Q I r h;obtain⟨i,rfl,d,q⟩:=h;obtain⟨u,rfl,t,rfl⟩:=j9 r;exact PySem.P.str_of_int d ⟨.str _,H,I.tok _,⟨_,rfl⟩,q⟩
end
structure IH (h:Heap) (x dx C:Addr) (mA:Str->Option Value):Prop where
 obj:h.get? x=some (W.instObj C dx)
 ns:h.Ns1 dx mA
 ne:dx≠x
def II{h:Heap}{b:Str->Option Value}(n:h.Ns1 f b):∃c,h.get? f=some c/\∀name,W.lookIn name c=some (b name):=by
 obtain⟨o,d,l,ho,hd,hk,_,g⟩:=n;refine⟨o,ho,λname=>?_⟩
 have e:=g name;unfold nsFind findBy at e;rw[<-Array.find?_toList]at e;unfold W.lookIn;rw[hd];dsimp only
 split
 ·grind
 ·rename_i q;rw[q]at e;have a:d.toList.any (·.refKey)=false:=by
   rw[List.any_eq_false];intro y i;obtain⟨z,t,j⟩:=hk y (Array.mem_toList_iff.mp i);simp[DictEntry.refKey,j]
  have k:¬d.toList.any (·.refKey)=true:=by grind
  rw[if_neg k];exact dq some e
def IH.PQ(I:IH h x b C c):∃a,W.InstAt h x (W.instObj C b) C (some a)/\∀name,W.lookIn name a=some (c name) :=
 let ⟨a,ho,d⟩:=II I.ns
 ⟨a,⟨I.obj,rfl,rfl,ho⟩,d⟩
section
variable {prog:Program} {w:World} {A:Around} {E:Value->Shared->Prop} {s:Shared} {K:W.Frag} {x dx C f:Addr} {mA:Str->Option Value} {name:Str} {v:Value}
def PR(X:K.In s.heap)(I:IH s.heap x dx C mA)(b:W.plainGet K C name=true)(c:W.hasDictIn K C=true)
  (d:W.findIn K (.ref C) name=some none) (e:mA name=some v) (a:W.handedIn v=true) (h:Q v {s with toks:=s.toks+1}) :
  wpAny (model prog w) A (getAttr (.ref x) name expr) Q E s:=by
 obtain⟨i,J,g⟩:=I.PQ;exact W.get_value X J (W.plainGet_of b).1 (W.findObj_own c d rfl (by rw[g,e])) a h
def PU(X:K.In s.heap)(I:IH s.heap x dx C mA)
  (i:W.findIn K (.ref C) "__setattr__"=some (some (.builtin "object.__setattr__"))) (hp:W.plainOver K C=true) (ht:W.takerIn K C name=some none) (j:W.hasDictIn K C=true)
  (hw:PySem.Within mA ns) (hsz:ns.length<=sizeLine)
  (h:∀h',IH h' x dx C (λy=>if y=name then some v else mA y)->Heap.SameBut dx s.heap h'->Q () {s with heap:=h',toks:=s.toks+2}) :
  wpAny (model prog w) A (setAttr (.ref x) name v) Q E s:=by
 obtain⟨p,J,q⟩:=I.PQ;refine W.set_plain X J i (W.osa_open X J hp ht λb=>?_)
 obtain⟨r,hc,k⟩:=W.any_some j;have l:=I.obj;refine ag (aj (ag (ag (wpAny_loadPart l (ag (W.Looks.here (W.looks_clsIn X hc) ?_))))));rw[k];refine aj (ag (aj (ag ?_)));refine wpAny_nsSet1 I.ns λh' a g=>?_
 obtain⟨t,m,o,c,d,e⟩:=a.count (PySem.Within.cons name v hw);refine ag (wpAny_lookBehind c (by rw[d];exact pastItsLine_dict (bA e (by grind))) ?_)
 exact aj (h _ ⟨(g.2 _ (dF I.ne)).trans I.obj,a,I.ne⟩ g)
def Lx(X:K.In s.heap)(b:W.makesIn K C=true)
  (c:W.findIn K (.ref C) "__init__"=some (some (.ref f))) (e:W.typeIn K (.ref f)=some (.type "function"))
  (h:codeAny (model prog w) (A.under (.builtin "type.__call__" ⟨.ref C::vs,kw⟩)) (.call (.ref f) ⟨.ref (s.heap.objs.size+1)::vs,kw⟩) (W.InitBack (s.heap.objs.size+1) R)
   {s with heap:=(s.heap.push W.emptyDict).push (W.instObj C s.heap.objs.size)}) :
  codeAny (model prog w) A (.call (.ref C) ⟨vs,kw⟩) R s:=by
 obtain⟨i,g,d,t,j⟩:=s;exact W.make_core (W.makes_of X b) (W.looks_findIn X c) (λa=>W.bind_fn X a e) (.inl rfl) h
end
noncomputable def jj(f:Str)(v:V):List (Str×V)->List (Str×V)
 | []=>[(f,v)]
 | (g,x)::r=>if g=f then(g,v)::r else(g,x)::jj f v r
theorem qy(f g:Str)(v:V):∀fs:List (Str×V),(jj f v fs).lookup g=if g=f then some v else fs.lookup g
 | []=>by
  show List.lookup g [(f,v)]=_;by_cases h:g=f
  ·grind
  ·grind
 | (k,x)::r=>by
  have ih:=qy f g v r;rw[show jj f v ((k,x)::r)=(if k=f then(k,v)::r else(k,x)::jj f v r)from rfl]
  by_cases hk:k=f
  ·grind
  ·grind
theorem pW(f:Str)(v:V):∀fs:List (Str×V),f∈(jj f v fs).map (·.1)/\∀g,g∈fs.map (·.1)->g∈(jj f v fs).map (·.1)
 | []=>⟨by simp[jj],λg h=>by simp at h⟩
 | (k,x)::r=>by
  obtain⟨a,b⟩:=pW f v r;rw[show jj f v ((k,x)::r)=(if k=f then(k,v)::r else(k,x)::jj f v r)from rfl]
  by_cases hk:k=f
  ·grind
  ·grind
theorem qz(f:Str)(v:V):∀fs:List (Str×V),(jj f v fs).length<=fs.length+1
 | []=>by simp[jj]
 | (k,x)::r=>by
  have ih:=qz f v r;rw[show jj f v ((k,x)::r)=(if k=f then(k,v)::r else(k,x)::jj f v r)from rfl]
  by_cases hk:k=f
  ·grind
  ·grind
def td.PX(r:td (some v) o):∃u,o=some u/\RelV v u:=by
 cases o with
 | none=>exact(r).elim
 | some u=>exact⟨u,rfl,r⟩
def IJ(r:RelV v u):W.handedIn u=true:=by
 cases v with
 | bM=>cases(r);rfl
 | bl b=>cases(r);rfl
 | int i=>obtain⟨t,e⟩:=(r);cases e;rfl
 | str x=>obtain⟨t,e⟩:=(r);cases e;rfl
 | Y1 b=>obtain⟨t,e⟩:=(r);cases e;rfl
 | flt b=>obtain⟨t,e⟩:=(r);cases e;rfl
 | ref a=>cases(r);rfl
 | ty n=>cases(r);rfl
section
variable {P:Program} {w:World} {H H':Hp} {h h':Heap} {a C dx:Addr} {fs Vm:List (Str×V)}
def GD(c:mR P w H h)(e:H a=some (.qu C dx fs)):∃b,IH h a dx C b/\(∀f,td (fs.lookup f) (b f))/\PySem.Within b (fs.map (·.1))/\fs.length<=1000/\H dx=some (.own a):=by
 obtain⟨d,z,ne,g,b,n,r,q⟩:=(c a _ e);exact⟨b,⟨g,n,ne⟩,r,q,z,d⟩
end
def Ir.get{K:W.Frag}{C:Addr}(c:Ir K C)(f:Str):W.plainGet K C f=true:=c.pg
def jI.ZZ{K:W.Frag}{C:Addr}{f:Str}(n:jI K C f):W.takerIn K C f=some none:=by
 unfold W.takerIn;rw[show W.findIn K (.ref C) f=some none from n]
 rfl
section
variable {X:Cx} {ae:List (Addr×Obj)} {σ:St} {H:Hp} {s:Shared} {a C dx:Addr} {fs:List (Str×V)} {f:Str} {v:V} {A:Around} {E:Value->Shared->Prop}
def Et(I:Inv X ae σ H s)(e:H a=some (.qu C dx fs))(c:Ir X.K C)(n:jI X.K C f)(l:fs.lookup f=some v)
  (h:∀u d,Inv X ae σ H d->RelV v u->Q u d):wpAny (model X.prog X.w) A (getAttr (.ref a) f b) Q E s:=by
 obtain⟨j,O,r,_,_,_⟩:=GD I.hok e;obtain⟨u,i,g⟩:=td.PX (by rw[<-l];exact r f)
 exact PR I.tj O (c.get f) c.hd n i (IJ g) (h u _ (I.tok _) g)
def Eu(I:Inv X ae σ H s)(e:H a=some (.qu C dx fs))(c:Ir X.K C)(n:jI X.K C f)(J:fs.length<1000)(k:RelV y u)
  (h:∀i,Inv X ae σ (cC H a (.qu C dx (jj f y fs))) i->Q () i):wpAny (model X.prog X.w) A (setAttr (.ref a) f u) Q E s:=by
 obtain⟨l,O,r,j,_,ho⟩:=GD I.hok e;have m:(fs.map (·.1)).length<=sizeLine:=by rw[ao,yz];lia
 refine PU I.tj O c.sa c.po n.ZZ c.hd j m λp d t=>h _ ?_
 have hd:∃o,p.get? dx=some o:=let ⟨o,_,_,x,_⟩:=d.ns;⟨o,x⟩
 refine I.write (by rw[e];exact True.intro) (.inr ho) (λb q B z=>(t.2 b B).trans z) hd ?_
 refine⟨by rw[aJ O.ne];exact ho,?_,O.ne,d.obj,_,d.ns,λg=>?_,λg D=>?_⟩
 ·have:=qz f y fs;lia
 ·rw[qy];by_cases q:g=f
  ·rw[if_pos q,if_pos q];exact k
  ·rw[if_neg q,if_neg q];exact r g
 ·by_cases q:g=f
  ·rw[q];exact(pW f y fs).1
  ·refine(pW f y fs).2 g (j g λz=>D ?_)
   show(if g=f then some u else l g)=none
   rw[if_neg q];exact z
def Inv.made(I:Inv X ae σ H s):Inv X ae σ (cC (cC H s.heap.objs.size (.own (s.heap.objs.size+1))) (s.heap.objs.size+1) (.qu C s.heap.objs.size []))
  {s with heap:=(s.heap.push W.emptyDict).push (W.instObj C s.heap.objs.size)}:=by
 have e1:(s.heap.push W.emptyDict).get? s.heap.objs.size=some W.emptyDict:=cx s.heap rfl;have c:((s.heap.push W.emptyDict).push (W.instObj C s.heap.objs.size)).get? (s.heap.objs.size+1)=some (W.instObj C s.heap.objs.size):=by
  have:=cx (s.heap.push W.emptyDict) (o:=W.instObj C s.heap.objs.size) rfl
  rwa [pH]at this
 have d:(s.heap.push W.emptyDict).Ns s.heap.objs.size (λ_=>none):=⟨W.emptyDict,#[],_,e1,rfl,(λe he=>absurd he (by simp)),λ_=>rfl⟩
 have g:=I.laid (o:=.own (s.heap.objs.size+1)) (t':=s.toks) (λb u q=>bj _ q) (au _) ⟨_,e1⟩
 refine g.laid (t':=s.toks) (λb u q=>bj _ q) (gW (pH _ _)) ?_
 have ne:s.heap.objs.size≠s.heap.objs.size+1:=by grind
 refine⟨by rw[aJ ne,aF],dn _,ne,c,λ_=>none,(Heap.Ns1.of_empty d).at λo q=>bj _ q,λ_=>True.intro,λy h=>absurd rfl h⟩
def PY(c:attributeBase e f env (eval e env)=eval e env)
  (h:wpAny (model prog w) A (eval e env) (λo b=>wpAny (model prog w) A (getAttr o f true) Q E b) E s):wpAny (model prog w) A (eval (.Attribute e f pos) env) Q E s :=
 Attribute_any_ h (by rw[arm_eval_Attribute,c])
end
def aeu(K:W.Frag)(c:TE)(f:Str):TE:=λd H Q=>c d H λx b=>∃a C e fs v,x=.ref a/\b a=some (.qu C e fs)/\Ir K C/\jI K C f/\fs.lookup f=some v/\Q v b
def aev(K:W.Frag)(e g:TE)(f:Str):TS:=λD b H=>g b H λy h=>e b h λx c=>∃a C d fs,x=.ref a/\c a=some (.qu C d fs)/\Ir K C/\jI K C f/\fs.length<1000 /\
 D.nx b (cC c a (.qu C d (jj f y fs)))
section
variable {X:Cx} {o e value:Expr} {f:Str} {pos vo VQ:Pos} {ta tv:TE}
def VR(he:PE X e ta)(b:attributeBase e f X.env (eval e X.env)=eval e X.env):PE X (.Attribute e f pos) (aeu X.K ta f):=by
 intro d s g H Q I h;refine PY b (thn (he d s g H _ I h) λu w i=>?_)
 obtain⟨x,j,k,m,a,C,y,fs,v,ex,p,c,n,l,q⟩:=i;subst ex;obtain rfl:u=Value.ref a:=m;exact Et k p c n l λB D r t=>⟨v,j,r,t,q⟩
def VS(g:PE X o ta)(i:PE X value tv)(j:swapsWith value (some (.Attribute o f vo)) pos.line X.env=pure false):PS X (.Assign [.Attribute o f vo] value pos) (aev X.K ta tv f):=by
 intro d s b H D I h;refine plainObj_wpAny_Assign_Attribute (thn (i d s b H _ I h) λu s1 ⟨y,H1,k,m,q⟩=>thn (g d s1 b H1 _ k q) λp J r=>?_) j
 obtain⟨x,L,t,v,a,C,M,fs,ex,w,c,n,l,B⟩:=r;subst ex;obtain rfl:p=Value.ref a:=v;exact Eu t w c n l m λN E=>⟨b,_,E,B⟩
end
structure dW (k:Nat) (A:Around):Prop where
 hd:A.handled=none
 dp:A.depth+3*k+5<recursionLimit
 un:A.units+16*k+1200<cLine
def dW.mono(r:dW k A)(h:j<=k):dW j A:=⟨r.hd,by have:=r.dp;lia,by have:=r.un;lia⟩
def dW.deeper(r:dW (k+1) A)(a:Env):dW k (A.deeper a) :=
 ⟨r.hd,by have:=r.dp;show A.depth+1+3*k+5<_;lia,by have:=r.un;show A.units+3+16*k+1200<_;lia⟩
def Ew{A:Around}:(A.under (.builtin "type.__call__" ⟨.ref C::us,kw⟩)).depth=A.depth+1:=by
 first | rfl | simp[Around.under,Code.weight,Code.isCreation,Code.isGuard,Code.isCaller,Code.frames,Code.isFrame,guardIds]
def Ex{A:Around}:(A.under (.builtin "type.__call__" ⟨.ref C::us,kw⟩)).units=A.units+1:=by
 first | rfl | simp[Around.under,Code.cUnits,Code.frames,Code.isFrame]
def dW.make(r:dW (k+1) A)(C:Addr)(a:List Value)(kw:List (Str×Value)):dW k (A.under (.builtin "type.__call__" ⟨.ref C::a,kw⟩)) :=
 ⟨r.hd,by have:=r.dp;rw[Ew];lia,by have:=r.un;rw[Ex];lia⟩
def dW.depth(r:dW k A):A.depth<recursionLimit:=by have:=r.dp;lia
def aew:TA:=λ_ H Q=>Q [] H
def Z0(b:TE)(c:TA):TA:=λa H Q=>b a H λx d=>c a d λe f=>Q (x::e) f
section
variable {X:Cx} {e:Expr} {es:List Expr} {te:TE} {t:TA} {pos:Pos}
def tF:PA X [] aew:=λ_ _ _ _ H Q I h=>Calls.spliced_nil ⟨[],H,I,.nil,h⟩
def jN(c:PE X e te)(d:PA X es t)(f:starEach (e::es) X.env=(false,eval e X.env)::starEach es X.env:=by rfl):PA X (e::es) (Z0 te t):=by
 intro pos a s b H Q I h;rw[f];refine Calls.spliced_cons (thn (c a s b H _ I h) λu s1 ⟨x,H1,g,i,j⟩=>?_)
 exact thn (d pos a s1 b H1 _ g j) (by rintro us s2 ⟨xs,k,l,m,o⟩;exact⟨x::xs,k,l,.cons i m,o⟩)
def aex(t:TA):TE:=λc H Q=>t c H λa b=>a.length<=sizeLine/\∀p,b p=none->Q (.ref p) (cC b p (.aq a))
def aey(t:TA):TE:=λc H Q=>t c H λa b=>a.length<=sizeLine/\∀p,b p=none->Q (.ref p) (cC b p (.lst a))
def VT{c}(h:PA X es t):PE X (.Tuple es c pos) (aex t):=by
 intro d s f H Q I g;refine wpAny_Tuple_spliced (thn (h pos d s f H _ I g) λus s1 ⟨xs,H1,a,r,z,q⟩=>⟨by rw[<-r.length];exact z,?_⟩)
 have i:=a.hok.fresh (au _);refine⟨.ref s1.heap.objs.size,cC H1 s1.heap.objs.size (.aq xs),a.laid (λb u e=>bj _ e) (au _) ?_,rfl,q _ i⟩
 exact⟨z,us,r,⟨_,cx _ rfl,rfl,_,rfl⟩⟩
def Ly(h:PA X es t):PE X (.List es pos) (aey t):=by
 intro c s d H Q I f;refine wpAny_List_spliced (thn (h pos c s d H _ I f) λus s1 ⟨xs,H1,a,r,z,q⟩=>⟨by rw[<-r.length];exact z,?_⟩)
 have g:=a.hok.fresh (au _);refine⟨.ref s1.heap.objs.size,cC H1 s1.heap.objs.size (.lst xs),a.laid (λb u e=>bj _ e) (au _) ?_,rfl,q _ g⟩
 exact⟨z,us,0,r,cx _ rfl⟩
end
abbrev Sp:=List V->Hp->VK->XK->Prop
abbrev Kq:=List Env->Hp->Shared->XK->Value->Shared->Prop
structure Env0 (P:Program) (w:World) (K:W.Frag) (mg:Str->Option Value) (base:Heap) (A:Around) (aB:List Env) (s:Shared) (H:Hp):Prop where
 frames:A.frames=some aB
 mod:Mod K mg base
 bs:∀b o,base.get? b=some o->s.heap.get? b=some o/\H b=none
 bsz:base.objs.size<=s.heap.objs.size
 funs:s.heap.FunFrames base aB
 frf:∀b∈pV aB,H b=none
 hok:mR P w H s.heap
 bare:AllBare s.gens
 tabs:tf K H
def CE(c:List Env)(P:Program)(w:World)(H:Hp)(s:Shared)(Q:VK)(u:Value)(a:Shared):Prop :=
 ∃v b,a.os=s.os/\AllBare a.gens/\Un (pV c) [] H b s.heap a.heap/\mR P w b a.heap/\RelV v u/\Q v b
def CR(CX:Kq)(a:List Env)(P:Program)(w:World)(H:Hp)(s:Shared)(Q:VK)(E:XK)(r:Result)(b:Shared):Prop :=
 match r with
 | .ok (.ret u)=>CE a P w H s Q u b
 | .ok _=>False
 | .error e=>CX a H s E e b
structure FnOk (P:Program) (w:World) (K:W.Frag) (mg:Str->Option Value) (base:Heap) (CX:Kq) (k:Nat) (f:Addr) (fd:FuncData) (ps:List Str) (sp:Sp):Prop where
 len:∀vs H Q E,sp vs H Q E->vs.length=ps.length
 run:∀(A:Around) (aB:List Env) (s:Shared) (H:Hp) (args:Args) (us:List Value) (vs:List V) (Q:VK) (E:XK),dW k A->Env0 P w K mg base A aB s H->BindsTo s fd args (ps.zip us)->Vals vs us->sp vs H Q E ->
  codeAny (model P w) A (.call (.ref f) args) (CR CX aB P w H s Q E) s
def Env0.make{P:Program}{w:World}{K:W.Frag}{b:Str->Option Value}{a:Heap}{A:Around}{c:List Env}{s:Shared}{H:Hp}(e:Env0 P w K b a A c s H)(C:Addr)(d:List Value)(kw:List (Str×Value)) :
  Env0 P w K b a (A.under (.builtin "type.__call__" ⟨.ref C::d,kw⟩)) c s H:=⟨by first | exact e.frames | (simpa[Around.under,Code.envs,Code.isFrame,pushEnvs]using e.frames),e.mod,e.bs,e.bsz,e.funs,e.frf,e.hok,e.bare,e.tabs⟩
section
variable {X:Cx} {ae:List (Addr×Obj)} {σ:St} {H:Hp} {s s':Shared}
def Inv.PZ(I:Inv X ae σ H s):Env0 X.prog X.w X.K X.mg X.base X.A X.stack s H :=
 ⟨I.ok.frames,I.ok.mod,I.bs,bA I.ok.bsz I.sz,I.stack,I.yF,I.hok,I.bare,I.tabs⟩
def Inv.after(I:Inv X ae σ H s)(h:CE X.stack X.prog X.w H s Q u s'):EP X ae σ Q u s':=by
 obtain⟨v,e,f,a,un,c,r,q⟩:=h;obtain⟨k,g,d,t,j⟩:=s';obtain rfl:j=s.os:=f;exact⟨v,e,I.call un c a (λb z=>absurd z (by simp)),r,q⟩
end
def Tu(C:Addr)(c:Sp)(d:List V)(E:XK)(t:TA):TE:=λe H Q=>t e H λf b=>∀x a,b x=none->b a=none->a≠x ->
 c (.ref x::(f++d)) (cC (cC b a (.own x)) x (.qu C a [])) (λv g=>v=.bM/\Q (.ref x) g) E
def gZ(K:W.Frag)(b:FuncData)(ps:List Str)(a:List Value):Prop :=
 ∀(s:Shared) (us:List Value),K.In s.heap->(us++a).length=ps.length->BindsTo s b ⟨us,[]⟩ (ps.zip (us++a))
def gZ.all{K:W.Frag}{b:FuncData}{ps:List Str}(h:∀a:List Value,a.length=ps.length->bindArgs b ⟨a,[]⟩=pure (ps.zip a)):gZ K b ps []:=λs a _ c=>by
 rw[eG]at c ⊢;exact .of_eq (h a c)
def Ey(CX:Kq)(X:Cx)(E:XK):Prop:=∀(b:List (Addr×Obj)) (σ:St) (H:Hp) (s:Shared) (e:Value) (a:Shared),Inv X b σ H s->CX X.stack H s E e a->X.xe e a
section
variable {X:Cx} {CX:Kq} {k:Nat} {f C:Addr} {fd:FuncData} {ps:List Str} {sp:Sp} {Th:List V} {ds:List Value} {E:XK} {x m:Str} {p pos sY:Pos} {e o:Expr} {es:List Expr} {ta:TE} {t:TA}
def Lz{g:List (Addr×Obj)}{i:St}{H:Hp}{s:Shared}{Q:VK}{a:List Value}{vs:List V}(M:Mk X.K C f)(F:FnOk X.prog X.w X.K X.mg X.base CX k f fd ps sp)(q:dW (k+1) X.A)(y:gZ X.K fd ps ds)(hd:Vals Th ds)
  (B:Ey CX X E) (I:Inv X g i H s) (r:Vals vs a)
  (h:∀x c,H x=none->H c=none->c≠x->sp (.ref x::(vs++Th)) (cC (cC H c (.own x)) x (.qu C c [])) (λv D=>v=.bM/\Q (.ref x) D) E) :
  wpAny (model X.prog X.w) X.A (call (.ref C) a) (EP X g i Q) X.xe s:=by
 have j:=h (s.heap.objs.size+1) s.heap.objs.size (I.hok.fresh (sW _)) (I.hok.fresh (au _)) (bK (sN _));have d:=Inv.made (C:=C) I;have l:Vals (V.ref (s.heap.objs.size+1)::(vs++Th)) (Value.ref (s.heap.objs.size+1)::(a++ds)):=.cons rfl (r.append hd);have J:(Value.ref (s.heap.objs.size+1)::a++ds).length=ps.length:=by
  have e:=l.length;rw[F.len _ _ _ _ j]at e;exact e.symm
 refine sX (Lx I.tj M.makes M.init (bu.mp M.fn) (kP (F.run _ X.stack _ _ ⟨Value.ref (s.heap.objs.size+1)::a,[]⟩ (Value.ref (s.heap.objs.size+1)::(a++ds)) _ _ E (q.make C a [])
  (d.PZ.make C a []) (y _ (Value.ref (s.heap.objs.size+1)::a) d.tj J) l j) λr L b=>?_))
 cases r with
 | error e=>exact B g i _ _ e L d b
 | ok N =>
  cases N with
  | ret u =>
   obtain⟨v,R,T,Y,Z,q3⟩:=d.after b;subst Z;exact⟨Y,⟨V.ref (s.heap.objs.size+1),R,T,rfl,q3⟩⟩
  | next=>exact False.elim b
  | brk=>exact False.elim b
  | cont=>exact False.elim b
def P0(M:Mk X.K C f)(F:FnOk X.prog X.w X.K X.mg X.base CX k f fd ps sp)(b:dW (k+1) X.A)(c:Gl X x)(d:X.mg x=some (.ref C))(g:gZ X.K fd ps ds)(hd:Vals Th ds)(i:Ey CX X E)
  (j:PA X (e::es) t) (l:(x==("__debug__":Str))=false:=by decide) (he:starEach (e::es) X.env=(false,eval e X.env)::starEach es X.env:=by rfl) (u:(backTo pos (starEach es X.env)).any (·.1)=false:=by rfl) :
  PE X (.Call (.Name x p) (e::es) [] pos) (Tu C sp Th E t):=by
 intro v s y H Q I h;refine kJ (ld_glob I c d ?_ l);refine W.callWith_K I.ok.mod.kin M.kp (thn (j pos v s y H _ I h) λus s1 ⟨B,H1,a,r,q⟩=>⟨a.tj,?_⟩) he u
 exact Lz M F b g hd i a r q
end
theorem wz{a:Str->Option NameKind}:∀{b:List (Str×Value)} {m:Str->Option Value},(∀v,(x,v)∉b)->bindL a b m x=m x
 | [],_,_=>rfl
 | (n,v)::r,m,h=>by
  unfold bindL;rw[wz λw hw=>h w (aK _ hw)]
  split
  ·grind
  ·rfl
theorem wA{a:Str->Option NameKind}:∀{b:List (Str×Value)} {m:Str->Option Value},(∀v,(x,v)∉b)->bindC a b m x=m x
 | [],_,_=>rfl
 | (n,v)::r,m,h=>by
  unfold bindC;rw[wA λw hw=>h w (aK _ hw)]
  split
  ·rfl
  ·grind
theorem wB{a:Str->Option NameKind}:∀{P:List Str} {vs:List Value} {i:Nat} {m:Str->Option Value},P.Nodup->P[i]?=some x->vs[i]?=some v->a x=some .local ->
  bindL a (P.zip vs) m x=some v
 | [],_,_,_,_,h,_,_=>by simp at h
 | _::_,[],_,_,_,_,h,_=>by simp at h
 | p::P,w::vs,0,m,nd,b,c,hk=>by
  simp at b c;subst b;subst c;show bindL a ((p,w)::P.zip vs) m p=_;unfold bindL;rw[wz λv d=>(iX.mp nd).1 (yt d).1,if_pos hk]
  simp
 | p::P,w::vs,i+1,m,nd,b,c,hk=>by
  unfold bindL;exact wB (iX.mp nd).2 (by simpa using b) (by grind) hk
theorem wC{a:Str->Option NameKind}:∀{P:List Str} {vs:List Value} {i:Nat} {m:Str->Option Value},P.Nodup->P[i]?=some x->vs[i]?=some v->a x≠some .local ->
  bindC a (P.zip vs) m x=some v
 | [],_,_,_,_,h,_,_=>by simp at h
 | _::_,[],_,_,_,_,h,_=>by simp at h
 | p::P,w::vs,0,m,nd,b,c,hk=>by
  simp at b c;subst b;subst c;show bindC a ((p,w)::P.zip vs) m p=_;unfold bindC;rw[wA λv d=>(iX.mp nd).1 (yt d).1,if_neg hk]
  simp
 | p::P,w::vs,i+1,m,nd,b,c,hk=>by
  unfold bindC;exact wC (iX.mp nd).2 (by simpa using b) (by grind) hk
noncomputable def start(N:List Str)(vs:List V):St:=vs.map some++List.replicate (N.length-vs.length) none
noncomputable def fP(CX:Kq)(P:Program)(w:World)(K:W.Frag)(mg:Str->Option Value)(base:Heap)(N:List Str)(qual:Str)(a:Scope)(f:Addr)(cd:Value)(A:Around)(aB:List Env)(s:Shared)(H:Hp)(E:XK):Cx where
 prog:=P
 w:=w
 K:=K
 mg:=mg
 base:=base
 A:=A.deeper (envOfC qual a s.heap.objs.size f cd)
 N:=N
 s₀:=s
 aa:=H
 env:=envOfC qual a s.heap.objs.size f cd
 aB:=aB
 stack:=envOfC qual a s.heap.objs.size f cd::aB
 ex:=[]
 calm:=true
 fn:=λ_=>true
 pn:=[]
 xe:=λe c=>wpAny (model P w) (A.deeper (envOfC qual a s.heap.objs.size f cd)) (leaving (envOfC qual a s.heap.objs.size f cd) e) (λ_ b=>CX aB H s E e b) (λd b=>CX aB H s E d b) c
def Bg{a:Scope}(h:a.names.lookup x=some .cell):∃c,(cellsFrom n a.names []).lookup x=some c:=by
 have q:=W.cellsFrom_some a.names n [] (.inl h);exact Option.isSome_iff_exists.mp q
def wD{CX:Kq}{P:Program}{w:World}{K:W.Frag}{C:Str->Option Value}{g:Heap}{N ps:List Str}{qual:Str}{d:Scope}{f:Addr}{cd:Value}{A:Around}{D:List Env}{s s1:Shared}{H:Hp}{E:XK}{I:List Value}{vs:List V}
  (S:dP N ps d) (hd:A.handled=none) (j:Env0 P w K C g A D s H) (R:vs.length=ps.length) (r:Vals vs I)
  (x:InCallC s s.heap.objs.size (bindL (envOfC qual d s.heap.objs.size f cd).kindOf (ps.zip I) λ_=>none) (cellsFrom (s.heap.objs.size+1) d.names []) (bindC (envOfC qual d s.heap.objs.size f cd).kindOf (ps.zip I) λ_=>none) s1) :
  Inv (fP CX P w K C g N qual d f cd A D s H E) [] (start N vs) H s1:=by
 have T:ps.length<=N.length:=by have:=dq List.length S.pre;rw[iW]at this;lia
 obtain⟨B,X,rfl,hk⟩:=x.done;have m:∀b:Addr,b∉(fP CX P w K C g N qual d f cd A D s H E).ex:=λb z=>absurd (show b∈([]:List Addr)from z) (by simp)
 refine⟨⟨j.mod,S.kind,rfl,rfl,au _,λy z c B l=>?_,λy o=>?_,λy c _ h=>?_,λ_=>hd,Around.frames_deeper j.frames,.inr ⟨rfl,rfl⟩,λb z=>absurd z (m b),j.bs,j.bsz,λb _ _=>m b,λb z=>absurd z (m b),j.funs,j.frf,j.tabs⟩,
  rfl,j.bare,Un.kept hk,⟨_,x.toInCall.ns,λi y v B l Y=>?_⟩,λy c h=>⟨_,x.cell y c h⟩,j.hok.fresh (au _),λy c h=>?_,λp hp=>absurd (show p∈([]:List (Addr×Obj))from hp) (by simp),j.hok.kept hk,?_⟩
 ·exact name_of_addr x.apart (eY B) (eY l)
 ·have o:=o;rcases o with o | o
  ·exact Bg o
  ·exact absurd rfl (S.nofree _ (eY o))
 ·exact d9 (x.above y c (eY h))
 ·have J:i<vs.length:=by
   unfold start at l;by_cases J:i<vs.length
   ·exact J
   ·grind
  have M:vs[i]?=some v:=by
   unfold start at l;rw[ij (by grind),bP]at l
   cases e:vs[i]? with
   | none=>rw[e]at l;cases l
   | some a=>rw[e]at l;cases l;rfl
  obtain⟨u,L,Q⟩:=r.get M;have hp:ps[i]?=some y:=by
   rw[<-S.pre,List.getElem?_take_of_lt (by lia)];exact B
  have t:ps.Nodup:=by rw[<-S.pre];exact S.nd.sublist (List.take_sublist _ _)
  refine⟨u,Q,?_⟩;rcases S.par y (dc hp)with k | k
  ·exact .inl ⟨k,wB t hp L k⟩
  ·obtain⟨c,e⟩:=Bg k;refine .inr ⟨.inl k,c,e,?_⟩;have q:=x.cell y c e;rw[wC t hp L (by show d.names.lookup y≠_;rw[k];decide)]at q
   exact q
 ·exact j.hok.fresh (d9 (x.above y c (eY h)))
 ·unfold start;show _=N.length;rw[aX,ao,List.length_replicate]
  lia
def LC{CX:Kq}{P:Program}{w:World}{K:W.Frag}{p:Str->Option Value}{c:Heap}{k:Nat}{f:Addr}{name qual:Str}{j:Arguments}{d:List Stmt}{a:Scope}{T kV l X g ct oc:Value}{Y od:Option Addr}
  {AK:Array (Option Value)} {N ps:List Str} {C:Sp} (lk:K.lookup f=some ⟨oc,od,.func (W.fnOf name qual j d a T kV l X Y g ct),AK⟩) (Gu:W.codeIn K g qual=true) (S:dP N ps a)
  (len:∀vs H Q E,C vs H Q E->vs.length=ps.length)
  (hbody:∀(A:Around) (h:List Env) (s:Shared) (H:Hp) (vs:List V) (Q:VK) (E:XK),dW k (A.deeper (envOfC qual a s.heap.objs.size f g))->C vs H Q E ->
   ∃t,PSs (fP CX P w K p c N qual a f g A h s H E) d t/\t {nx:=λ_ H'=>Q .bM H',rt:=Q} (start N vs) H) :
  FnOk P w K p c CX (k+1) f (W.fnOf name qual j d a T kV l X Y g ct) ps C:=by
 refine⟨len,λA h s H args us vs Q E D m hb r Z=>?_⟩
 have hl:=len _ _ _ _ Z;have KX:=m.mod.kin.keeps λb o e=>(m.bs b o e).1
 have L:=m.mod.nolimit.keeps λb o e=>(m.bs b o e).1
 have Z1:∀y∈ps.zip us,a.names.lookup y.1=some .local\/(a.names.lookup y.1=some .cell/\((cellsFrom (s.heap.objs.size+1) a.names []).lookup y.1).isSome=true):=by
  rintro⟨n,v⟩ hy
  rcases S.par n (yt hy).1 with q | q
  ·grind
  ·exact .inr ⟨q,W.cellsFrom_some _ _ _ (.inl q)⟩
 refine codeAny_call_function D.depth (KX _ _ lk) rfl S.co S.gen rfl (W.codeRec_of KX Gu) (hb _ _ _ _ ?_);refine KN S.kind Z1 λenv he s1 x=>?_
 subst he;refine⟨L.keeps x.toInCall.keep,codeAny_func ?_⟩;obtain⟨t,ht,hq⟩:=hbody A h s H vs Q E (D.deeper _) Z;have I:Inv (fP CX P w K p c N qual a f g A h s H E) [] (start N vs) H s1:=wD S D.hd m hl r x;refine jH (ht [] s1 (start N vs) H _ I hq) (λfl M i=>?_) λe M i=>i
 have fin:∀{B:St} {H':Hp} {v:V} {u:Value},Inv (fP CX P w K p c N qual a f g A h s H E) [] B H' M->RelV v u->Q v H'->CE h P w H s Q u M :=
  λ{B H' v u} J R q=>⟨v,H',J.os,J.bare,J.base,J.hok,R,q⟩
 cases fl with
 | ret u =>
  obtain⟨v,B,H',J,R,q⟩:=i;exact fin J R q
 | next =>
  obtain⟨B,H',J,q⟩:=i;exact fin (v:=V.bM) J rfl q
 | brk =>
  obtain⟨_,_,_,q⟩:=i;exact False.elim q
 | cont =>
  obtain⟨_,_,_,q⟩:=i;exact False.elim q
section
variable {X:Cx} {x:Str} {p pos:Pos} {e:Expr} {es:List Expr} {t:TA} {id T:String} {r:List V->Hp->VK->Prop}
def tCB(r:List V->Hp->VK->Prop)(t:TA):TE:=λa H Q=>t a H λb c=>r b c Q
def nK(hc:nI X (.builtin id) r)(c:Gl X x)(d:X.mg x=none)(f:bootBuiltins x=some (.builtin id))(g:PA X (e::es) t)(i:x≠"__name__":=by decide)(j:(x==("__debug__":Str))=false:=by decide)
  (he:starEach (e::es) X.env=(false,eval e X.env)::starEach es X.env:=by rfl) (k:(backTo pos (starEach es X.env)).any (·.1)=false:=by rfl):PE X (.Call (.Name x p) (e::es) [] pos) (tCB r t):=by
 intro a s b H Q I h;refine kJ (ld_blt I c d f ?_ i j);exact KD (thn (g pos a s b H _ I h) (by rintro us s1 ⟨l,H1,m,o,q⟩;exact hc a s1 b H1 l us Q m o q)) he k
def pX(hc:nI X (.type T) r)(c:Gl X x)(d:X.mg x=none)(f:bootBuiltins x=some (.type T))(g:PA X (e::es) t)(i:x≠"__name__":=by decide)(j:(x==("__debug__":Str))=false:=by decide)
  (he:starEach (e::es) X.env=(false,eval e X.env)::starEach es X.env:=by rfl) (k:(backTo pos (starEach es X.env)).any (·.1)=false:=by rfl):PE X (.Call (.Name x p) (e::es) [] pos) (tCB r t):=by
 intro a s b H Q I h;refine kJ (ld_blt I c d f ?_ i j);exact kA (thn (g pos a s b H _ I h) (by rintro us s1 ⟨l,H1,m,o,q⟩;exact hc a s1 b H1 l us Q m o q)) he k
end
end L2
namespace HT
open PySem PyProof.Rows
section
variable {prog:Program} {w:World} {A:Around} {E:Value->Shared->Prop} {s:Shared}
def GF(ht:IsTup s.heap t vs.toArray)(k:IsTup s.heap b ws.toArray)(o:vs≠[])
  (h1:ws=[]->Q (.ref t) s) (l:ws≠[]->Q (.ref s.heap.objs.size) {s with heap:=s.heap.push {cls:=.type "tuple",data:=.seq (vs++ws).toArray}})
  (hsz:vs.length+ws.length<=sizeLine):wpAny (model prog w) A (binaryOp .Add (.ref t) (.ref b)) Q E s:=by
 obtain⟨⟨cls,f,data,g⟩,ho,hc,n,hd⟩:=id ht;obtain⟨⟨m,c,p,d⟩,a,h,i,j⟩:=id k;simp only at hc hd h j;subst hc hd h j;have e:vs.toArray++ws.toArray=(vs++ws).toArray:=by simp
 by_cases hw:ws=[]
 ·exact concat_meets ⟨_,ho,rfl⟩ ⟨_,a,rfl⟩ D4 seq_tuple_add DN DK (DJ _ _)
   (tuple_addW1 t b vs.toArray ws.toArray n i f c g d (by grind) (by simp[hw])) ⟨ho,a,h1 hw⟩
 ·refine concat_meets ⟨_,ho,rfl⟩ ⟨_,a,rfl⟩ D4 seq_tuple_add DN DK (DJ _ _)
   (tuple_addW2 t b vs.toArray ws.toArray n i f c g d (by grind) (by grind) (by grind)) ⟨ho,a,?_⟩
  rw[e];exact l hw
noncomputable def fu(n d:Nat):Option Int->Nat
 | none=>d
 | some v=>if v<0 then(v+(n:Int)).toNat else min v.toNat n
def Bh(n d:Nat):fu n d none=d:=rfl
def yJ(n d k:Nat):fu n d (some (k:Int))=min k n:=by
 show(if(k:Int)<0 then((k:Int)+(n:Int)).toNat else min (k:Int).toNat n)=min k n
 rw[if_neg (by lia),eZ]
def VV(n d:Nat)(hd:d<=n)(o:Option Int):fu n d o<=n:=by
 cases o with
 | none=>exact hd
 | some v =>
  show(if v<0 then(v+(n:Int)).toNat else min v.toNat n)<=n
  by_cases a:v<0
  ·grind
  ·grind
def GG(v:Int)(n d:Nat):(if v<0 then max (v+(n:Int)) 0 else min v (n:Int))=((fu n d (some v):Nat):Int):=by
 show(if v<0 then max (v+(n:Int)) 0 else min v (n:Int))=(((if v<0 then(v+(n:Int)).toNat else min v.toNat n):Nat):Int)
 by_cases a:v<0
 ·grind
 ·grind
def Ez(lo a:Option Int)(n:Nat):Builtin.Slice.sliceAdjust lo a 1 (n:Int)=(((fu n 0 lo:Nat):Int),((fu n n a:Nat):Int)):=by
 have b:¬(1<0):=by lia
 unfold Builtin.Slice.sliceAdjust;simp only[b,fF];refine Prod.ext ?_ ?_
 ·cases lo with
  | none=>rfl
  | some v=>exact GG v n 0
 ·cases a with
  | none=>rfl
  | some v=>exact GG v n n
def EA(i j:Nat):Builtin.Slice.slicePlaces (i:Int) (j:Int) 1=j-i:=by
 unfold Builtin.Slice.slicePlaces;have a:1>0:=by lia
 simp only[a,iZ,Int.ediv_one];split<;>lia
def tH(p:IsPart v o)(h:Q o s):wpAny (model prog w) A (Builtin.Slice.slicePartIndex v) Q E s:=by
 cases p with
 | none=>exact slicePart_none h
 | int i t=>exact slicePart_int h
def jk{d e:Value}{lo a:Option Int}{n:Nat}{Q:Int×Int×Nat->Shared->Prop}(f:s.heap.IsSliceOf g d e .none)(pl:IsPart d lo)(i:IsPart e a)
  (h:Q (((fu n 0 lo:Nat):Int),1,fu n n a-fu n 0 lo) s):wpAny (model prog w) A (Builtin.Slice.sliceApplied (.ref g) (pure (n:Int))) Q E s:=by
 obtain⟨j,b,k,c⟩:=id f;unfold Builtin.Slice.sliceApplied Builtin.Slice.sliceFields;refine ag (ag (kR b c rfl (ag (kR b c rfl (ag (kR b c rfl (aj ?_)))))));refine ag (slicePart_none ?_);rw[if_neg (by decide)]
 refine ag (tH pl (ag (tH i (ag (aj ?_)))));show wpAny _ _ (match Builtin.Slice.sliceAdjust lo a 1 (n:Int)with | (lo,a)=>pure (lo,(1:Int),Builtin.Slice.slicePlaces lo a 1)) _ _ s
 rw[Ez lo a n];show wpAny _ _ (pure (((fu n 0 lo:Nat):Int),(1:Int),Builtin.Slice.slicePlaces ((fu n 0 lo:Nat):Int) ((fu n n a:Nat):Int) 1)) _ _ s;rw[EA];exact aj h
def LD(xs:Array Value)(i k:Nat):((List.range k).filterMap fun(m:Nat)=>xs[((i:Int)+(m:Int)*1).toNat]?).toArray=((xs.toList.drop i).take k).toArray:=by
 have e:(fun(m:Nat)=>xs[(i+(m:Int)*1).toNat]?)=λm=>xs[i+m]?:=by
  grind
 rw[e];have:=pick_run xs i k;rw[List.filterMap_map]at this;have a:((λx=>xs[x]?) ∘ λx=>i+x)=λm=>xs[i+m]?:=rfl
 rw[a]at this;rw[this]
def nL{a:Array Value}{d e:Value}{lo b:Option Int}{Q:Value->Shared->Prop}(ht:IsTup s.heap t a)(f:s.heap.IsSliceOf g d e .none)(pl:IsPart d lo)(i:IsPart e b)
  (hw:¬(fu a.size 0 lo=0/\fu a.size a.size b=a.size))
  (h:Q (.ref s.heap.objs.size) {s with heap:=s.heap.push {cls:=.type "tuple",data:=.seq ((a.toList.drop (fu a.size 0 lo)).take (fu a.size a.size b-fu a.size 0 lo)).toArray}})
  (hsz:a.size<=sizeLine):wpAny (model prog w) A (getItem (.ref t) (.ref g)) Q E s:=by
 have c:sizeOk (.seq ((a.toList.drop (fu a.size 0 lo)).take (fu a.size a.size b-fu a.size 0 lo)).toArray):=by
  show((a.toList.drop (fu a.size 0 lo)).take (fu a.size a.size b-fu a.size 0 lo)).toArray.size<=sizeLine;rw[fA,iW,yn,de]
  lia
 have q:fu a.size a.size b<=a.size:=VV _ _ (au _) b;obtain⟨j,k,l,r⟩:=id f;have o:s.TypeIs (.ref g) "slice":=⟨j,k,l⟩;unfold getItem
 try with_reducible refine dZ ?_
 first | refine ag (aj ?_) | skip
 refine ag (wpAny_sequenceKey ht.typeIs (by decide) ?_)
 refine ag (jC ht.typeIs pf
  (fX pf ht.typeIs entry_tuple_getitem ?_ (args_tuple_getitem _ _)))
 show wpAny _ _ (Builtin.Tuple.tupleItemsOf (.ref t) >>= _) _ _ s;refine ag (tupleItemsOf_ ht ?_);refine ag (pN o ?_);rw[if_pos (by decide)]
 refine ag (jk f pl i ?_);have p:¬((((fu a.size 0 lo:Nat):Int)==0&&(1:Int)==1&&(fu a.size a.size b-fu a.size 0 lo)==a.size)=true):=by
  grind
 show wpAny _ _ (if(((fu a.size 0 lo:Nat):Int)==0&&(1:Int)==1&&(fu a.size a.size b-fu a.size 0 lo)==a.size)=true then _ else _) _ _ s
 rw[if_neg p,LD]
 first
  | exact ag (m:=Builtin.Tuple.tupleExact _) (gy (aj ⟨_,rfl,aj h⟩) c)
  | exact ag (m:=Builtin.Tuple.tupleExact _) (gy (ag (aj (aj ⟨_,rfl,aj h⟩))) c)
  | exact ag (ag (m:=Builtin.Tuple.tupleExact _) (gy (aj (aj ⟨_,rfl,aj h⟩)) c))
  | exact ag (ag (m:=Builtin.Tuple.tupleExact _) (gy (aj ⟨_,rfl,aj h⟩) c))
end
end HT
namespace L2
open PySem PySem.Spec PyProof.Rows
abbrev TO:=St->Hp->(Option Int->Hp->Prop)->Prop
def PO(X:Cx)(e:Option Expr)(t:TO):Prop :=
 ∀(a:List (Addr×Obj)) (s:Shared) (σ:St) (H:Hp) (Q:Option Int->Hp->Prop),Inv X a σ H s->t σ H Q ->
  wpAny (model X.prog X.w) X.A (evalPart e X.env) (λu c=>∃o b,Inv X a σ b c/\IsPart u o/\Q o b) X.xe s
def P6:TO:=λ_ H Q=>Q none H
def Z6(t:TE):TO:=λa H Q=>t a H λx b=>∃i,x=.int i/\Q (some i) b
def mV:∀{a:List Value},Vals (ns.map V.int) a->IntsAre a ns:=by
 induction ns with
 | nil=>intro a r;rw[pO]at r;cases r;exact .nil
 | cons n ns ih =>
  intro a r;rw[aO]at r;cases r with
  | cons b c =>
   obtain⟨t,e⟩:=b;subst e;exact .cons n t (ih c)
section
variable {X:Cx} {e:Expr} {te:TE} {lo hi:Option Expr} {tl th:TO} {pos p2:Pos}
def P7:PO X none P6:=by
 intro a s b H Q I h;rw[evalPart_none];exact aj ⟨none,H,I,.none,h⟩
def P8(h:PE X e te):PO X (some e) (Z6 te):=by
 intro a s b H Q I hw;rw[evalPart_some];refine thn (h a s b H _ I hw) λu s1 ⟨x,H1,c,d,f⟩=>?_
 obtain⟨i,rfl,q⟩:=f;obtain⟨t,rfl⟩:=d;exact⟨some i,H1,c,.int i t,q⟩
def SlR(X:Cx)(r:V->Option Int->Option Int->Hp->VK->Prop):Prop :=
 ∀(a:List (Addr×Obj)) (s:Shared) (σ:St) (H:Hp) (x:V) (v b c:Value) (lo hi:Option Int) (d:Addr) (Q:VK),Inv X a σ H s->RelV x v->s.heap.IsSliceOf d b c .none->IsPart b lo->IsPart c hi->r x lo hi H Q ->
  ∃T id,typeLookup (.type T) "__getitem__"=pure (some (.builtin id))/\s.TypeIs v T/\wpAny (model X.prog X.w) X.A (getItem v (.ref d)) (EP X a σ Q) X.xe s
def tSl(r:V->Option Int->Option Int->Hp->VK->Prop)(te:TE)(tl th:TO):TE:=λa H Q=>te a H λx b=>tl a b λl c=>th a c λu d=>r x l u d Q
def LF{r:V->Option Int->Option Int->Hp->VK->Prop}(i:SlR X r)(he:PE X e te)(j:PO X lo tl)(k:PO X hi th):PE X (.Subscript e (.Slice lo hi none p2) pos) (tSl r te tl th):=by
 intro a s c H Q I h;refine Subscript_ (thn (he a s c H _ I h) λv s1 ⟨x,H1,m,o,p⟩=>?_)
 refine wpAny_Slice (thn (j a s1 c H1 _ m p) λd s2 ⟨l,t,y,pl,B⟩=>thn (k a s2 c t _ y B) λf s3 ⟨u,g,C,pu,D⟩=>?_)
 rw[evalPart_none];refine aj ?_;have E:Inv X a c g {s3 with heap:=s3.heap.push {cls:=.type "slice",data:=.fields #[d,f,.none]}}:=C.kept λb M q=>bj _ q
 obtain⟨T,id,J,ht,L⟩:=i a {s3 with heap:=s3.heap.push {cls:=.type "slice",data:=.fields #[d,f,.none]}} c g x v d f l u s3.heap.objs.size Q E o (Heap.IsSliceOf.new ..) pl pu D
 show wpAny (model X.prog X.w) X.A (subscriptTail e (.Slice lo hi none p2) v (.ref s3.heap.objs.size)) (EP X a c Q) X.xe {s3 with heap:=s3.heap.push {cls:=.type "slice",data:=.fields #[d,f,.none]}}
 exact tail_any ht J L (by with_unfolding_all rfl)
def Bi(xs:List V)(lo hi:Option Int):List V:=(xs.drop (HT.fu xs.length 0 lo)).take (HT.fu xs.length xs.length hi-HT.fu xs.length 0 lo)
def qA(xs:List V)(lo hi:Option Int):(Bi xs lo hi).length<=xs.length:=by
 unfold Bi;rw[iW,yn]
 lia
def aeC(K:W.Frag):V->Option Int->Option Int->Hp->VK->Prop:=λx lo hi H Q=>∃a b,x=.ref a/\iG K H a b /\
 ¬(HT.fu b.length 0 lo=0/\HT.fu b.length b.length hi=b.length)/\∀p,H p=none->Q (.ref p) (cC H p (.aq (Bi b lo hi)))
def VW:SlR X (aeC X.K):=by
 intro m s o H x v p t lo hi u Q I d f pl g h;obtain⟨a,c,rfl,i,hw,q⟩:=h;cases d;obtain⟨j,r,ht,k⟩:=I.tuple i;have l:j.toArray.size=c.length:=by rw[fA];exact r.length.symm
 refine⟨"tuple",_,pf.lookup,ht.typeIs,?_⟩;refine HT.nL ht f pl g (by grind) ?_ (by grind)
 rw[l];refine⟨.ref s.heap.objs.size,_,I.laid (λb w q=>bj _ q) (au _) ?_,rfl,q _ (I.hok.fresh (au _))⟩
 exact⟨bA (qA c lo hi) k,_,(r.drop (HT.fu c.length 0 lo)).take (HT.fu c.length c.length hi-HT.fu c.length 0 lo),IsTup.new _ _⟩
def Z7(K:W.Frag):R2:=λx y H Q=>∃a b d c,x=.ref a/\y=.ref b/\iG K H a d/\iG K H b c/\d≠[]/\d.length+c.length<=sizeLine /\
 (c=[]->Q (.ref a) H)/\(c≠[]->∀p,H p=none->Q (.ref p) (cC H p (.aq (d++c))))
def Vals.nM(r:Vals xs us):us=[]↔xs=[]:=by
 cases r with
 | nil=>simp
 | cons _ _=>simp
def P9:OpR X (binaryOp .Add) (Z7 X.K):=by
 intro r s t H x y v u Q I f g h;obtain⟨a,b,B,C,rfl,rfl,i,j,k,l,m,o⟩:=h;cases f;cases g;obtain⟨D,d,p,_⟩:=I.tuple i;obtain⟨E,c,p2,_⟩:=I.tuple j;refine HT.GF p p2 (λz=>k (d.nM.mp z)) (λz=>⟨.ref a,H,I,rfl,m (c.nM.mp z)⟩) (λz=>?_) (by rw[<-d.length,<-c.length];exact l)
 refine⟨.ref s.heap.objs.size,_,I.laid (λb J q=>bj _ q) (au _) ?_,rfl,o (λw=>z (c.nM.mpr w)) _ (I.hok.fresh (au _))⟩
 exact⟨by grind,_,d.append c,IsTup.new _ _⟩
end
noncomputable def OX(n:Nat)(i:Int):Option Nat:=if 0<=i then(if i<n then some i.toNat else none)else if -(n:Int)<=i then some (i+n).toNat else none
def lF{a:Type}(xs:List a)(i:Int):Option a:=(OX xs.length i).bind λj=>xs[j]?
def GI(h:OX n i=some j):seqIndex? i n=some j/\j<n /\ -(n:Int)<=i/\i<n:=by
 unfold OX at h;by_cases b:0<=i
 ·rw[if_pos b]at h;by_cases a:i<n
  ·rw[if_pos a]at h;have e:=cD h;exact⟨by rw[seqIndex_of b a,e],by lia,by lia,a⟩
  ·grind
 ·rw[if_neg b]at h;by_cases a:-n<=i
  ·rw[if_pos a]at h;have e:=cD h;exact⟨by rw[seqIndex_neg (by lia) a,e],by lia,a,by lia⟩
  ·grind
def yK{a:Type}{xs:List a}{i:Int}{v:a}(h:lF xs i=some v):∃j,seqIndex? i xs.length=some j/\xs[j]?=some v/\j<xs.length /\ -(xs.length:Int)<=i/\i<xs.length:=by
 unfold lF at h;cases e:OX xs.length i with
 | none=>rw[e]at h;cases h
 | some j =>
  rw[e]at h;obtain⟨b,c,d,f⟩:=GI e;exact⟨j,b,h,c,d,f⟩
def atI_nat{a:Type}{xs:List a}{j:Nat}{v:a}(h:xs[j]?=some v):lF xs (j:Int)=some v:=by
 have b:=(bW.mp h).1;have e:OX xs.length j=some j:=by
  unfold OX;rw[if_pos (by lia),if_pos (by lia)];simp
 unfold lF;rw[e];exact h
def rF(b:Expr):Prop:=∀o i,subscripted b false o i=operate [o,i] (getItem o i)
def Y6(X:Cx)(r:R2):Prop :=
 ∀(b a:Expr) (c:List (Addr×Obj)) (s:Shared) (σ:St) (H:Hp) (x y:V) (v u:Value) (Q:VK),Inv X c σ H s->RelV x v->RelV y u->r x y H Q ->
  subscripted a false v u=operate [v,u] (getItem v u)->wpAny (model X.prog X.w) X.A (subscriptTail b a v u) (EP X c σ Q) X.xe s
def Z8(X:Cx)(id:String)(r:V->List V->Hp->VK->Prop):Prop :=
 ∀(a:List (Addr×Obj)) (s:Shared) (σ:St) (H:Hp) (x:V) (xs:List V) (v:Value) (us:List Value) (Q:VK),Inv X a σ H s->RelV x v->Vals xs us->r x xs H Q ->
  wpAny (model X.prog X.w) X.A (call (.builtin id) (v::us)) (EP X a σ Q) X.xe s
section
variable {X:Cx} {a b:Expr} {ta tb:TE} {pos:Pos}
def Tw(c:Y6 X r)(d:PE X a ta)(e:PE X b tb)(f:rF b):PE X (.Subscript a b pos) (Y5 r ta tb):=by
 intro g s i H Q I h;exact Subscript_ (PF d e I h λv u j x y k l m o q=>c a b g j i k x y v u Q l m o q (f _ _))
def aeD(K:W.Frag):R2:=λx y H Q=>∃p c i v,x=.ref p/\y=.int i/\yG K H p c/\lF c i=some v/\Q v H
def aeE(K:W.Frag):R2:=λx y H Q=>∃p c i v,x=.ref p/\y=.int i/\iG K H p c/\lF c i=some v/\Q v H
def aeF:R2:=λx y H Q=>∃z i c,x=.str z/\y=.int i/\z.length<=sizeLine/\lF z.cps.toList i=some c/\Q (.str ⟨#[c]⟩) H
def QA:Y6 X (aeD X.K):=by
 intro d e k s l H x y v u Q I m o h f;obtain⟨p,R,i,z,rfl,rfl,B,he,q⟩:=h;cases m;obtain⟨t,rfl⟩:=o;obtain⟨C,r,pl,T⟩:=I.list B;obtain⟨j,c,D,Y,E,J⟩:=yK he;obtain⟨w,Z,L⟩:=r.get D;have M:=r.length;have hn:=mU;have fin:EP X k l Q w s:=⟨z,H,I,L,q⟩;by_cases g:0<=i
 ·have N:i.toNat=j:=by
   rw[seqIndex_of g J]at c;exact cD c
  exact item_listR pl.isList g (by lia) (by grind) fin f
 ·have N:(i+(C.toArray.size:Int)).toNat=j:=by
   rw[seqIndex_neg (by lia) E]at c
   rw[fA,<-M];exact cD c
  exact subscriptTail_builtinR pl.isList.typeIs slot_list_getitem.lookup
   (wpAny_getItem_list_neg pl.isList (by lia) (by grind) (by lia) (by grind) ⟨rfl,fin⟩) f
def VY:Y6 X (aeE X.K):=by
 intro c d e s f H x y v u Q I g k h l;obtain⟨p,E,i,z,rfl,rfl,m,he,q⟩:=h;cases g;obtain⟨t,rfl⟩:=k;obtain⟨J,r,pl,L⟩:=I.tuple m;obtain⟨j,o,B,M,N,R⟩:=yK he;obtain⟨w,T,C⟩:=r.get B;have D:=r.length;have Y:=mU;have fin:EP X e f Q w s:=⟨z,H,I,C,q⟩;exact subscriptTail_builtinR pl.typeIs slot_tuple_getitem.lookup
  (getItem_tuple pl (by lia) (by lia) (by rw[fA,<-D];exact o) (by grind) ⟨rfl,fin⟩) l
def VZ:Y6 X aeF:=by
 intro d e r s w H x y v u Q I f g h k;obtain⟨z,i,c,rfl,rfl,B,he,q⟩:=h;obtain⟨t,rfl⟩:=f;obtain⟨C,rfl⟩:=g;obtain⟨j,l,D,E,m,o⟩:=yK he;have p:z.cps.toList.length=z.length:=by simp[Str.length]
 rw[p]at l m o;have J:=mU;exact tail_any (typeIs_str s z t) slot_str_getitem.lookup (getItem_str (by
  grind) (by grind) ⟨.str ⟨#[c]⟩,H,I.tok _,⟨_,rfl⟩,q⟩) k
def EB(c:List Value)(n j:Nat)(u:Value):Obj.mapSeq (·.setIfInBounds j u) {cls:=.type "list",data:=.seq c.toArray n}={cls:=.type "list",data:=.seq (c.set j u).toArray n}:=by
 simp[Obj.mapSeq]
def Inv.lst{d:List (Addr×Obj)}{σ:St}{H:Hp}{s:Shared}{p:Addr}{xs:List V}(I:Inv X d σ H s)(h:H p=some (.lst xs)) :
  ∃(c:List Value) (n:Nat),Vals xs c/\s.heap.get? p=some {cls:=.type "list",data:=.seq c.toArray n}/\xs.length<=sizeLine:=by
 obtain⟨z,c,n,r,e⟩:=I.hok p _ h;exact⟨c,n,r,e,z⟩
def Inv.V0{j:List (Addr×Obj)}{σ:St}{H:Hp}{s:Shared}{p:Addr}{xs d:List V}{k c:List Value}{n g:Nat}{f:Obj->Obj}(I:Inv X j σ H s)(h:H p=some (.lst xs))
  (ho:s.heap.get? p=some {cls:=.type "list",data:=.seq k.toArray n}) (l:f {cls:=.type "list",data:=.seq k.toArray n}={cls:=.type "list",data:=.seq c.toArray g}) (r:Vals d c) (hz:d.length<=sizeLine) (t:Nat) :
  Inv X j σ (cC H p (.lst d)) {s with heap:=s.heap.update p f,toks:=t}:=by
 have e:(s.heap.update p f).get? p=some {cls:=.type "list",data:=.seq c.toArray g}:=by
  rw[kC f ho (by rw[l]<;>rfl),l]
 refine I.write (by rw[h];trivial) (.inl rfl) (λb u m q=>(xW _ _ (dF m)).trans q) ⟨_,e⟩ ?_
 exact⟨hz,c,g,r,e⟩
def Z9:V->V->V->Hp->(Hp->Prop)->Prop:=λo i v H Q=>∃p c k j,o=.ref p/\i=.int k/\H p=some (.lst c)/\OX c.length k=some j/\Q (cC H p (.lst (c.set j v)))
def LG:Lj X Z9:=by
 intro f s g H o i v E J u Q I l m w h;obtain⟨p,x,k,j,rfl,rfl,hp,y,q⟩:=h;cases l;obtain⟨t,rfl⟩:=m;obtain⟨d,n,r,ho,L⟩:=I.lst hp;obtain⟨c,M,B,C⟩:=GI y;have D:=r.length;have N:=mU;have R:Inv X f g (cC H p (.lst (x.set j v))) {s with heap:=s.heap.update p (Obj.mapSeq (·.setIfInBounds j u))} :=
  I.V0 hp ho (EB d n j u) (r.set w j) (by grind) s.toks
 by_cases e:0<=k
 ·have hk:k.toNat=j:=by
   rw[seqIndex_of e C]at c;exact cD c
  exact W.ki_setAt ho e (by lia) (by grind) (by grind)
 ·have hk:(k+(d.toArray.size:Int)).toNat=j:=by
   rw[seqIndex_neg (by lia) B]at c
   rw[fA,<-D];exact cD c
  exact W.ki_setBack ho (by lia) (by grind) (by lia) (by grind)
def yL(lo c:Option Int)(n:Nat):(sliceBounds lo c none n).1=((HT.fu n 0 lo:Nat):Int)/\(sliceBounds lo c none n).2.1=((HT.fu n n c:Nat):Int)/\(sliceBounds lo c none n).2.2=1:=by
 refine⟨?_,?_,rfl⟩
 ·cases lo with
  | none=>simp[sliceBounds,HT.fu]
  | some i =>
   simp only[sliceBounds,HT.fu,D6,show 1>0 by decide,iZ]
   by_cases h:i<0
   ·grind
   ·grind
 ·cases c with
  | none=>simp[sliceBounds,HT.fu]
  | some i =>
   simp only[sliceBounds,HT.fu,D6,show 1>0 by decide,iZ]
   by_cases h:i<0
   ·grind
   ·grind
def vt(c:List Value)(lo d:Option Int):slicePick c.toArray lo d none=((c.drop (HT.fu c.length 0 lo)).take (HT.fu c.length c.length d-HT.fu c.length 0 lo)).toArray:=by
 obtain⟨e,f,g⟩:=yL lo d c.toArray.size;unfold slicePick;rw[e,f,g];simp only[sliceRange_one,pick_run,fA]<;>rfl
def aeG(K:W.Frag):V->Option Int->Option Int->Hp->VK->Prop:=λx lo d H Q=>∃a c,x=.ref a/\yG K H a c/\∀p,H p=none->Q (.ref p) (cC H p (.lst (Bi c lo d)))
def QB:SlR X (aeG X.K):=by
 intro l s m H x v o p lo d t Q I e f pl g h;obtain⟨a,c,rfl,i,q⟩:=h;cases e;obtain⟨u,r,ht,j⟩:=I.list i;have k:=r.length;refine⟨"list",_,slot_list_getitem.lookup,ht.isList.typeIs,?_⟩;refine wpAny_getItem_list_slice ht.isList f pl g .none (by simp) ?_ (by grind)
 rw[vt,<-k];refine⟨.ref s.heap.objs.size,_,I.laid (λb w q=>bj _ q) (au _) ?_,rfl,q _ (I.hok.fresh (au _))⟩
 exact⟨bA (qA c lo d) j,_,0,(r.drop (HT.fu c.length 0 lo)).take (HT.fu c.length c.length d-HT.fu c.length 0 lo),cx _ rfl⟩
def nN:nI X (.builtin "len") (λxs H Q=>∃p c,xs=[.ref p]/\(yG X.K H p c\/iG X.K H p c)/\Q (.int c.length) H):=by
 intro k s l H xs m Q I r h;obtain⟨p,c,rfl,d,q⟩:=h;obtain⟨u,rfl,f⟩:=j9 r;cases f;have o:=mU;rcases d with d | d
 ·obtain⟨g,e,pl,i⟩:=I.list d;have j:=e.length;exact Calls.call_len_list pl.isList (by grind) ⟨.int c.length,H,I.tok _,⟨s.toks+1,by grind⟩,q⟩
 ·obtain⟨g,e,pl,i⟩:=I.tuple d;have j:=e.length;exact len_tuple pl (by grind) ⟨.int c.length,H,I.tok _,⟨s.toks+1,by grind⟩,q⟩
def yM:nI X (.builtin "len") (λxs H Q=>∃z,xs=[.str z]/\z.length<=sizeLine/\Q (.int z.length) H):=by
 intro c s d H xs e Q I r h;obtain⟨z,rfl,f,q⟩:=h;obtain⟨u,rfl,t,rfl⟩:=j9 r;have g:=mU;exact len_str (by lia) ⟨.int z.length,H,I.tok _,⟨_,rfl⟩,q⟩
def l7:nI X (.type "tuple") (λxs H Q=>∃p c,xs=[.ref p]/\((yG X.K H p c/\∀l,H l=none->Q (.ref l) (cC H l (.aq c)))\/(iG X.K H p c/\Q (.ref p) H))):=by
 intro m s t H xs y Q I r h;obtain⟨p,c,rfl,h⟩:=h;obtain⟨u,rfl,v⟩:=j9 r;cases v;rcases h with⟨d,q⟩ | ⟨d,q⟩
 ·obtain⟨f,g,pl,j⟩:=I.list d;have B:=g.length;refine call_tuple_list pl.isList (λi w=>?_) (by grind)
  have k:=I.kept (t':=s.toks) w;have x:Inv X m t (cC H i.objs.size (.aq c)) {s with heap:=i.push {cls:=.type "tuple",data:=.seq f.toArray}} :=
   k.laid (λb o e=>bj _ e) (au _) (⟨j,f,g,IsTup.new _ _⟩)
  exact⟨.ref i.objs.size,_,x,rfl,q _ (k.hok.fresh (au _))⟩
 ·obtain⟨f,g,pl,j⟩:=I.tuple d;exact call_tuple_same pl ⟨.ref p,H,I,rfl,q⟩
def tyV(K:W.Frag)(T:String)(x:V)(H:Hp):Prop:=match x with
 | .str _=>T="str"
 | .int _=>T="int"
 | .ref p=>(T="list"/\∃d,yG K H p d)\/(T="tuple"/\∃o,K.lookup p=some o/\o.cls=.type "tuple"/\o.dict=none) \/
   (T="dict"/\((∃c,H p=some (.dK c))\/∃c,H p=some (.dT c)))\/(T="set"/\∃S n,H p=some (.set S n))
 | _=>False
def LH{h:List (Addr×Obj)}{j:St}{H:Hp}{s:Shared}{T:String}{x:V}{v:Value}(I:Inv X h j H s)(r:RelV x v)(ty:tyV X.K T x H) :
  s.TypeIs v T/\∀a,v=.ref a->∃g,s.heap.get? a=some g/\g.dict=none:=by
 cases x with
 | str z =>
  obtain⟨t,rfl⟩:=r;cases(ty);exact⟨typeIs_str s z t,λ_ e=>nomatch e⟩
 | int i =>
  obtain⟨t,rfl⟩:=r;cases(ty);exact⟨typeIs_int s i t,λ_ e=>nomatch e⟩
 | ref p =>
  cases r;rcases ty with⟨rfl,xs,k⟩ | ⟨rfl,o,hk,hc,hd⟩ | ⟨rfl,hk⟩ | ⟨rfl,S,n,hk⟩
  ·obtain⟨l,_,pl,_⟩:=I.list k;refine⟨pl.isList.typeIs,λa e=>?_⟩
   cases e;obtain⟨o,n,e,c,hd,_⟩:=pl;exact⟨o,e,hd⟩
  ·refine⟨⟨o,I.tj p o hk,hc⟩,λa e=>?_⟩
   cases e;exact⟨o,I.tj _ o hk,hd⟩
  ·have z:∃o,s.heap.get? p=some o/\o.ExactDict:=by
    rcases hk with⟨d,hk⟩ | ⟨d,hk⟩
    ·obtain⟨_,_,_,_,o,_,_,e,ex,_⟩:=I.hok p _ hk;exact⟨o,e,ex⟩
    ·obtain⟨_,_,o,_,_,e,ex,_⟩:=(I.hok p _ hk);exact⟨o,e,ex⟩
   obtain⟨o,e,ex⟩:=z;refine⟨⟨o,e,ex.1⟩,λa f=>?_⟩
   cases f;exact⟨o,e,ex.2.1⟩
  ·obtain⟨o,_,_,_,e,ex,_⟩:=I.hok p _ hk;refine⟨⟨o,e,ex.1⟩,λa f=>?_⟩
   cases f;exact⟨o,e,ex.2.1⟩
 | _=>exact False.elim ty
def aaa(K:W.Frag)(T:String)(r:V->List V->Hp->VK->Prop)(to:TE):TE:=λd H Q=>to d H λx c=>tyV K T x c/\r x [] c Q
def tBM(K:W.Frag)(T:String)(r:V->List V->Hp->VK->Prop)(to:TE)(t:TA):TE:=λc H Q=>to c H λx d=>tyV K T x d/\t c d λe f=>r x e f Q
variable {o e:Expr} {es:List Expr} {to:TE} {t:TA} {name:Str} {sY lR:Pos} {T id:String} {r:V->List V->Hp->VK->Prop}
def LI(j:PlainAttrs T)(slot:Slot T name id)(c:typeOf (.builtin id)=pure (.type "method_descriptor"))(k:Z8 X id r)(ho:PE X o to)
  (l:attributeBase o name X.env (eval o X.env)=eval o X.env:=by rfl) (m:(sY.endLine==lR.line)=true:=by rfl):PE X (.Call (.Attribute o name sY) [] [] lR) (aaa X.K T r to):=by
 intro d s f H Q I h;refine wpAny_Call_method0_late l m (thn (ho d s f H _ I h) λv p q=>?_)
 obtain⟨x,u,g,i,ty,w⟩:=q;obtain⟨y,B⟩:=LH g i ty;exact⟨T,id,j,slot,c,y,B,Calls.callWith_builtin rfl (PySem.evalArgs_none (k d p f u x [] v [] Q g i .nil w))⟩
def Bj(k:PlainAttrs T)(slot:Slot T name id)(c:typeOf (.builtin id)=pure (.type "method_descriptor"))(l:Z8 X id r)(ho:PE X o to)(m:PA X (e::es) t)
  (p:attributeBase o name X.env (eval o X.env)=eval o X.env:=by rfl)
  (q:((backTo lR (starEach (e::es) X.env)).all (λx=>!x.1)&&(backToKw lR (keywordEach [] X.env)).all (λx=>x.1.isSome)
   && decide ((e::es).length+([]:List Keyword).length+(if([]:List Keyword).isEmpty then 0 else 1)<30))=true:=by rfl)
  (u:(sY.endLine==lR.line)=true:=by rfl) (w:starEach (e::es) X.env=(false,eval e X.env)::starEach es X.env:=by rfl) (y:(backTo lR (starEach es X.env)).any (·.1)=false:=by rfl) :
  PE X (.Call (.Attribute o name sY) (e::es) [] lR) (tBM X.K T r to t):=by
 intro d s f H Q I h;refine wpAny_Call_method_late p q u rfl (thn (ho d s f H _ I h) λv B C=>?_)
 obtain⟨x,D,g,i,ty,E⟩:=C;obtain⟨J,L⟩:=LH g i ty;refine⟨T,id,k,slot,c,J,L,?_⟩;have j:=m lR d B f D _ g E;rw[w]at j ⊢;refine Calls.callWith_builtin (by grind) (Calls.evalArgs_plain ?_)
 exact thn j (by rintro us s2 ⟨M,N,R,Y,Z⟩;exact l d s2 f N x M v us Q R i Y Z)
end
def MtM(X:Cx)(id:String)(r:V->List V->Hp->VK->Prop):Prop :=
 ∀(a:List (Addr×Obj)) (s:Shared) (σ:St) (H:Hp) (x:V) (xs:List V) (v:Value) (us:List Value) (Q:VK),Inv X a σ H s->RelV x v->Vals xs us->r x xs H Q ->
  wpAny (model X.prog X.w) X.A (call (.builtin id) (v::us)) (EP X a σ Q) X.xe s
theorem Vals.one:∀{x:V} {us:List Value},Vals [x] us->∃u,us=[u]/\RelV x u
 | _,_,.cons r .nil=>⟨_,rfl,r⟩
def Vals.two{x y:V}{a:List Value}(h:Vals [x,y] a):∃u v,a=[u,v]/\RelV x u/\RelV y v:=by
 cases h with
 | cons r h=>cases h with
  | cons q h=>cases h;exact⟨_,_,rfl,r,q⟩
theorem Vals.zero:∀{a:List Value},Vals [] a->a=[]
 | _,.nil=>rfl
theorem Vals.eraseIdx:∀{xs:List V} {us:List Value} (i:Nat),Vals xs us->Vals (xs.eraseIdx i) (us.eraseIdx i)
 | _,_,_,.nil=>.nil
 | _,_,0,.cons _ t=>t
 | _,_,i+1,.cons r t=>.cons r (Vals.eraseIdx i t)
def Vals.reverse(h:Vals xs us):Vals xs.reverse us.reverse:=by
 induction h with
 | nil=>exact .nil
 | cons r t ih=>rw[yf,yf];exact Vals.append ih (.cons r .nil)
section
variable {X:Cx} {ae:List (Addr×Obj)} {σ:St} {H:Hp} {s:Shared} {l b:Addr} {xs ys zs:List V}
def Inv.QC{c a:List Value}{n:Nat}{f:Array Value->Array Value}{t':Nat}(I:Inv X ae σ H s)(d:H l=some (.lst xs))
  (e:s.heap.get? l=some {cls:=.type "list",data:=.seq c.toArray n}) (g:f c.toArray=a.toArray) (h:Vals ys a) (hz:ys.length<=sizeLine) :
  Inv X ae σ (cC H l (.lst ys)) {s with heap:=s.heap.update l (Obj.mapSeq f),toks:=t'}:=by
 have q:=PySem.IsL.update e f;rw[g]at q;refine I.write (by rw[d];exact trivial) (.inl rfl) (λm u j k=>(xW s.heap (Obj.mapSeq f) (dF j)).trans k) ⟨_,q⟩ ?_
 exact⟨hz,a,_,h,q⟩
def Inv.aeJ(I:Inv X ae σ H s)(c:Vals ys a)(hz:ys.length<=sizeLine) :
  Inv X ae σ (cC H s.heap.objs.size (.lst ys)) {s with heap:=s.heap.push {cls:=.type "list",data:=.seq a.toArray},toks:=t'} :=
 I.laid (λ_ _ q=>bj _ q) (au _) ⟨hz,a,0,c,cx _ rfl⟩
def Inv.fresh(I:Inv X ae σ H s):H s.heap.objs.size=none:=I.hok.fresh (au _)
def Inv.iH(I:Inv X ae σ H s)(c:H l=some (.lst xs)):xs.length<=sizeLine/\∃(a:List Value) (n:Nat),Vals xs a/\xs.length=a.length/\s.heap.get? l=some {cls:=.type "list",data:=.seq a.toArray n}:=by
 obtain⟨z,a,n,r,e⟩:=I.hok l _ c;exact⟨z,a,n,r,r.length,e⟩
def LJ(h:n<=sizeLine):Builtin.List.listTooLong n=false:=by
 unfold Builtin.List.listTooLong;exact mK (by lia)
end
section
variable {X:Cx}
def GJ:V->List V->Hp->VK->Prop:=λx b H Q=>∃l a y,x=.ref l/\b=[y]/\H l=some (.lst a)/\a.length<sizeLine/\Q .bM (cC H l (.lst (a++[y])))
def IL:MtM X "list.append" GJ:=by
 intro g s i H x j v k Q I b c h;obtain⟨l,m,y,rfl,rfl,a,o,q⟩:=h;cases b;obtain⟨u,rfl,d⟩:=c.one;obtain⟨z,f,n,r,p,e⟩:=I.iH a;refine mQ F.slot_list_append ⟨_,e,rfl⟩ F.entry_list_append (F.args_list_append_2 _ _) (PySem.list_append l f.toArray n u (by grind)) ⟨e,?_⟩
 refine⟨.bM,_,I.QC a e (by simp) (r.append (.cons d .nil)) ?_,rfl,q⟩
 rw[aX,List.length_singleton]
 lia
def Bk:V->List V->Hp->VK->Prop:=λx b H Q=>∃l a,x=.ref l/\b=[]/\H l=some (.lst a)/\Q .bM (cC H l (.lst a.reverse))
def ED:MtM X "list.reverse" Bk:=by
 intro g s i H x j v k Q I c d h;obtain⟨l,m,rfl,rfl,b,q⟩:=h;cases c;have a:=d.zero;subst a;obtain⟨z,f,n,r,o,e⟩:=I.iH b;refine mQ F.slot_list_reverse ⟨_,e,rfl⟩ F.entry_list_reverse (F.args_list_reverse_1 _) (AutoSeq1.list_reverse_list_0 l f.toArray n (by grind)) ⟨e,?_⟩
 refine⟨.bM,_,I.QC b e (by simp) r.reverse ?_,rfl,q⟩
 rw[List.length_reverse]
 lia
end
end L2
namespace Att
open PySem PySem.W PySem.Calls PyProof.Rows
def qW:∀(c:List Int) (vs:List Value),WellAll P h vs (c.map WData.int)->IntsAre vs c:=by
 intro c;induction c with
 | nil =>
  intro vs w;rw[pO]at w;cases w;exact .nil
 | cons n c ih =>
  intro vs w;rw[aO]at w;cases w with
  | cons a b =>
   cases a;exact .cons _ _ (ih _ b)
def IM{l:OpenLaw}(k:l.most=some n) 
  (j:l.row.toRowW.claim.pre args=true) (f:WellAll P h g args) :
  ∃a vs b,g=[Value.ref a]/\args=[WData.list (b.map WData.int)]/\h.get? a=some {cls:=.type "list",data:=.seq vs.toArray}/\IntsAre vs b/\b.length<=n:=by
 have i:=(pre_splitW j).1;have hc:l.pre.holds [] {args:=args}=true:=(pre_splitW j).2
 obtain⟨d,r,rfl,m,o⟩:=hasAllW_cons i;obtain rfl:=hasAllW_nil o;obtain⟨y,rfl,p⟩:=hasW_list m;obtain⟨b,rfl⟩:=items_int p;have t:b.length<=n:=by
  unfold OpenLaw.pre at hc;have c:(WTm.not (.lt (.lit (.int n)) (.len (.arg 0)))).holds [] {args:=[.list (b.map .int)]}=true:=by
   have c:=(holds_andW hc).1;rw[k]at c;exact c
  have e:=condW_of c (w_not (w_lt w_lit (w_len_list (w_arg rfl))));rw[ao]at e;refine pF λq=>?_
  have u:n<(b.length:Nat):=by lia
  first
   | (rw[dE u]at e;exact absurd e (by decide))
   | (simp at e;lia)
 cases f with
 | cons v w =>
  cases w;cases v with
  | list ho x=>exact⟨_,_,b,rfl,rfl,ho,qW b _ x,t⟩
def IQ(l:OpenLaw)(args:List WData):l.row.toRowW.claim.post args (.bool true) args=true :=
 postW_of
  (show WShape.has [] (.bool true) .bool=true by first | rfl | decide | simp[WShape.has,WShape.arms,WShape.armsAll])
  (w_eq_bool (w_res rfl) w_lit) rfl
def Bl{l:OpenLaw}{n:Nat}{loose:List Str}{XP:(Str->Option Value)->Heap->Prop}{YP:World->Heap->Prop}{d:DefRec}
  (u:l.most=some n) (j:d.params.defaults=[])
  (call:∀(w:World) (s₀ b:Shared) (g k:Str->Option Value) (e:Addr) (o:Obj) (m cd c:Value) (a:Addr) (vs:List Value) (h:List Int),
   Ground q loose [] XP w s₀ g k b.heap->YP w b.heap ->
   b.heap.get? e=some o->o.data=.func (docDef d.name d.params d.body d.scope m cd c)->b.heap.CodeRec cd d.name->g d.name=some (.ref e) ->
   b.heap.get? a=some {cls:=.type "list",data:=.seq vs.toArray}->IntsAre vs h->h.length<=n->b.gens=#[] ->
   codeAny (model l.prog w) callerA (.call (.ref e) ⟨[.ref a],[]⟩) (λr i=>r=.ok (.ret (.bool true))/\OldK b.heap i.heap/\i.os=b.os/\AllBare i.gens) b) :
  WalkO q loose XP YP l.row.toRowW d [] (λf vs=>PySem.call f vs):=by
 intro w s₀ b g k G Y e o m cd c v kV ho hd x t y B args C as D E H p I;obtain rfl:v=.none:=Dflts.none t j;obtain rfl:kV=.none:=Dflts.noKw t;obtain⟨a,vs,h,rfl,rfl,J,L,M⟩:=IM u D p;refine enter_call (kP (call w s₀ b g k e o m cd c a vs h G Y ho (fd_plain hd) x y J L M B) λr i N=>?_)
 obtain⟨rfl,Q,R,T⟩:=N;exact⟨.inl ⟨.bool true,.bool true,[],rfl,λ_=>rfl,.bool true,IQ l _,λ_=>⟨List.Pairwise.nil,λ_ X=>(nomatch X)⟩⟩,Q,R,T⟩
end Att
namespace L2
open PySem PySem.Spec PyProof.Rows
theorem wF:∀{vs:List Value} {ns:List Int},IntsAre vs ns->Vals (ns.map V.int) vs
 | _,_,.nil=>.nil
 | _,_,.cons n t h=>.cons ⟨t,rfl⟩ (wF h)
def IS{P:Program}{w:World}{K:W.Frag}{l L:Str->Option Value}{CX:Kq}{k:Nat}{fa a:Addr}{fd:FuncData}{x:Str}{sp:Sp}{c:Shared}{vs:List Value}{i:List Int}{tabs:List (Addr×Str)}
  (KX:K.In c.heap) (LO:c.heap.Ns mainGlobals l) (M:c.heap.Ns builtinsNs L) (N:∀x:Str,x≠"__name__"->L x=bootBuiltins x) (QF:c.heap.NoLimit) (hg:c.gens=#[])
  (Q:∀b q,tabs.lookup b=some q->c.heap.get? b=some {cls:=.none,data:=.fields #[]}/\isCodeTable c.heap b/\K.lookup b=none) (R:∀H:Hp,(∀b q,tabs.lookup b=some q->H b=some (.Ef q))->tf K H)
  (C:c.heap.get? a=some {cls:=.type "list",data:=.seq vs.toArray}) (hi:IntsAre vs i) (hl:i.length<=sizeLine) (hr:dW k callerA)
  (F:∀f:Heap,K.In f->f.Ns mainGlobals l->FnOk P w K l f CX k fa fd [x] sp) (T:∀(s:Shared) (u:Value),BindsTo s fd ⟨[u],[]⟩ [(x,u)])
  (P4:∀H:Hp,lB K H a (i.map V.int)->sp [.ref a] H (λv _=>v=.bl true) λ_ _ _=>False) (X:∀H e j,CX [] H c (λ_ _ _=>False) e j->False) :
  codeAny (model P w) callerA (.call (.ref fa) ⟨[.ref a],[]⟩) (λr j=>r=.ok (.ret (.bool true))/\OldK c.heap j.heap/\j.os=c.os/\AllBare j.gens) c:=by
 have rv:=wF hi;have gX:=hi.length
 let D:Obj:={cls:=.type "list",data:=.seq vs.toArray}
 let H:Hp:=λb=>if b=a/\K.lookup a=none then some (.qw D (.lst (i.map V.int)))else(tabs.lookup b).map HO.Ef
 have Y:∀b,H b=if b=a/\K.lookup a=none then some (.qw D (.lst (i.map V.int)))else(tabs.lookup b).map HO.Ef:=λ_=>rfl
 have Z:∀b q,tabs.lookup b=some q->H b=some (.Ef q):=λb q e=>by
  grind
 have E:∀b u,H b=some u->(b=a/\K.lookup a=none/\u=.qw D (.lst (i.map V.int)))\/∃q,tabs.lookup b=some q/\u=.Ef q:=λb u e=>by
  rw[Y]at e;by_cases h:b=a/\K.lookup a=none
  ·grind
  ·rw[if_neg h]at e;cases z:tabs.lookup b with
   | none=>rw[z]at e;cases e
   | some q=>rw[z]at e;cases e;exact .inr ⟨q,rfl,rfl⟩
 have hS:lB K H a (i.map V.int):=by
  cases hk:K.lookup a with
  | some o =>
   have e:=KX a o hk;rw[C]at e;cases e;exact .inr ⟨vs,_,hk,by grind,rv⟩
  | none=>exact .inl (.inr ⟨D,by grind⟩)
 have hok:mR P w H c.heap:=λb u e=>by
  rcases E b u e with⟨rfl,_,rfl⟩ | ⟨q,hq,rfl⟩
  ·exact⟨C,by grind,vs,_,rv,C⟩
  ·exact⟨#[],(Q b q hq).1,trivial,λpos cv z=>by cases z⟩
 have noD:∀{b:Addr} {o:Obj} {I:Array DictEntry} {J:Nat},c.heap.get? b=some o->o.data=.dict I J->H b=none:=λ{b o I J} e d=>by
  cases q:H b with
  | none=>rfl
  | some u =>
   rcases E b u q with⟨rfl,_,_⟩ | ⟨t,ht,_⟩
   ·grind
   ·grind
 have g:∀{b:Addr} {m:Str->Option Value},c.heap.Ns b m->(A6 c.heap H).Ns b m:=λ{b m} ⟨o,I,J,e,d,r⟩=>⟨o,I,J,hidT_get e (noD e d),d,r⟩
 have p:K.In (A6 c.heap H):=λb o e=>hidT_get (KX b o e) (by
  cases q:H b with
  | none=>rfl
  | some u =>
   rcases E b u q with⟨rfl,z,_⟩ | ⟨t,ht,_⟩
   ·grind
   ·rw[(Q b t ht).2.2]at e;cases e)
 have hM:Mod K l (A6 c.heap H):=⟨p,g LO,⟨L,g M,N⟩,let ⟨mc,h1,h2⟩:=QF;⟨mc,g h1,h2⟩⟩
 have e0:Env0 P w K l (A6 c.heap H) callerA [] c H:=⟨rfl,hM,λb o e=>of_hidT e,gW (IB _ _),trivial,λb M=>absurd (show b∈([]:List Addr)from M) (by simp),hok,.of_eq hg,R H Z⟩
 refine kP ((F _ p (g LO)).run callerA [] c H ⟨[.ref a],[]⟩ [.ref a] [.ref a] _ _ hr e0 (T c (.ref a)) (.cons rfl .nil) (P4 H hS)) λr j h=>?_
 cases r with
 | error e=>exact(X H e j h).elim
 | ok fl =>
  cases fl with
  | next=>exact False.elim h
  | brk=>exact False.elim h
  | cont=>exact False.elim h
  | ret u =>
   obtain⟨v,H',os,y,un,B,r',q⟩:=h;have q':=q;subst q';obtain rfl:u=Value.bool true:=r';have noF:∀b:Addr,b∉pV []:=λb z=>absurd (show b∈([]:List Addr)from z) (by simp)
   refine⟨rfl,⟨λb o e=>?_,λb o e=>un.there b o e (by simp)⟩,os,y⟩
   cases q:H b with
   | none=>exact .inl (un.keep b o e q (noF b) (by simp))
   | some u =>
    rcases E b u q with⟨rfl,_,rfl⟩ | ⟨t,ht,rfl⟩
    ·obtain⟨e2,_⟩:=B b _ (un.frzs b _ _ q);rw[C]at e;cases e;exact .inl e2
    ·obtain⟨h1,h2,_⟩:=Q b t ht;obtain⟨ps,e2,_⟩:=(B b _ (un.tbls b _ q));rw[h1]at e;cases e;exact .inr (.inl ⟨h2,rfl,#[],ps,rfl,by grind⟩)
abbrev E0:XK:=λ_ _ _=>False
def cV(H H':Hp):Prop:=∀b o,H b=some o->H' b=some o
def cV.refl(H:Hp):cV H H:=λ_ _ h=>h
def cV.trans(a:cV H H1)(b:cV H1 d):cV H d:=λc o h=>b c o (a c o h)
def cV.free(e:cV H H')(h:H' l=Option.none):H l=Option.none:=by
 cases q:H l with
 | none=>rfl
 | some o =>
  rw[e l o q]at h;cases h
def cV.seq{K:W.Frag}{H H':Hp}{a:Addr}{xs:List V}(e:cV H H')(h:yG K H a xs):yG K H' a xs:=by
 rcases h with(h | ⟨o,h⟩) | h
 ·exact .inl (.inl (e _ _ h))
 ·exact .inl (.inr ⟨o,e _ _ h⟩)
 ·exact .inr h
end L2
namespace OY
open PySem PyProof PyProof.Rows
section
variable {prog:Program} {w:World} {A:Around} {E:Value->Shared->Prop} {s:Shared}
def cq{arr:Array Keyed}{i:Nat}{x:Keyed}{Q:Keyed->SortSt->Prop}{st:SortSt}(a:arr[i]?=some x)(h:Q x st):wpS (model prog w) A E s (elem' arr i) Q st:=by
 rw[elem'_eq,a];exact aA h
def isI(x:Keyed):Prop:=∃n t,x.1=.int n t
def Bm{x y:Keyed}{Q:Option Bool->SortSt->Prop}{st:SortSt}(hk:kindOf st=oneType')(e:isI x)(f:isI y) (h:Q (some (decide (numOf x.1<numOf y.1))) st):wpS (model prog w) A E s (lt' x y) Q st:=by
 obtain⟨a,t,c⟩:=e;obtain⟨b,u,d⟩:=f;rw[lt'_eq];refine ak (fg ?_);rw[hk,keyLt'_oneType,c,d];rw[c,d]at h;exact ak (kT (sQ (oneLt_int ⟨rfl,aA h⟩)))
def f9{arr:Array Keyed}(h:IntKeys arr){i:Nat}{x:Keyed}(a:arr[i]?=some x):isI x:=h x (by
 grind)
def fK{arr:Array Keyed}{i:Nat}(a:i<arr.size):∃x,arr[i]?=some x/\K arr i=numOf x.1:=⟨arr[i],su a,K_eq a⟩
noncomputable def bey(left:Bool)(a:Keyed)(arr:Array Keyed)(b i:Nat):StateT SortSt Sem (Option Bool):=do
 let x <-elem' arr (b+i)
 if left then lt' x a else return (<-lt' a x).map (!·)
noncomputable def Bv(left:Bool)(b:Keyed)(arr:Array Keyed)(a i:Nat):Bool:=if left=true then decide (K arr (a+i)<numOf b.1)else !decide (numOf b.1<K arr (a+i))
def tJ{left:Bool}{b:Keyed}{arr:Array Keyed}{a i:Nat}{Q:Option Bool->SortSt->Prop}{st:SortSt}(hk:kindOf st=oneType')(d:IntKeys arr)(f:isI b)(g:a+i<arr.size)(h:Q (some (Bv left b arr a i)) st):wpS (model prog w) A E s (bey left b arr a i) Q st:=by
 obtain⟨x,c,e⟩:=fK g;unfold Bv at h;rw[e]at h;refine ak (cq c ?_);cases left with
 | true=>exact Bm hk (f9 d c) f h
 | false=>exact ak (Bm hk f (f9 d c) (aA h))
def jO:Bool->Keyed->Array Keyed->Nat->Nat->Nat->StateT SortSt Sem (Option Nat):=sortPriv% PySem.Builtin.gallop
def ie{left:Bool}{d:Keyed}{arr:Array Keyed}{a n b:Nat}{Q:Option Nat->SortSt->Prop}{st:SortSt}(hk:kindOf st=oneType')(H:IntKeys arr)(J:isI d)(hb:a+n<=arr.size)(hh:b<n)
  (mono:∀i j,i<=j->j<n->Bv left d arr a j=true->Bv left d arr a i=true)
  (h:∀r,r<=n->(∀i,i<r->Bv left d arr a i=true)->(∀i,r<=i->i<n->Bv left d arr a i=false)->Q (some r) st):wpS (model prog w) A E s (jO left d arr a n b) Q st:=by
 have down:∀i j,i<=j->j<n->Bv left d arr a i=false->Bv left d arr a j=false:=λi j u y T=>by
  grind
 have bin:∀(lo k:Nat),lo<=k->k<=n->(∀i,i<lo->Bv left d arr a i=true)->(∀i,k<=i->i<n->Bv left d arr a i=false)->∀{f:Nat->Option (Option Nat)×Nat×Nat->StateT SortSt Sem (ForInStep (Option (Option Nat)×Nat×Nat))} {g:Option (Option Nat)×Nat×Nat->StateT SortSt Sem (Option Nat)},
   (∀x lo k,lo>=k->f x (none,lo,k)=pure (.done (none,lo,k))) ->
   (∀x lo k,¬lo>=k->∀(P:ForInStep (Option (Option Nat)×Nat×Nat)->SortSt->Prop),(Bv left d arr a (lo+(k-lo)/2)=true->P (.yield (none,lo+(k-lo)/2+1,k)) st)->(Bv left d arr a (lo+(k-lo)/2)=false->P (.yield (none,lo,lo+(k-lo)/2)) st)->k<=n->wpS (model prog w) A E s (f x (none,lo,k)) P st) ->
   (∀lo k,g (none,lo,k)=pure (some k)) ->
   wpS (model prog w) A E s (forIn [0:n] (none,lo,k) f >>= g) Q st:=λlo k u y T Z f g L M hg=>by
  refine ak (ej (ei
   (I:=λx c o=>o=st/\∃lo k,c=(none,lo,k)/\lo<=k/\k<=n/\k-lo<=n-x/\(∀i,i<lo->Bv left d arr a i=true)/\(∀i,k<=i->i<n->Bv left d arr a i=false))
   (Q:=λc o=>o=st/\∃k,c=(none,k,k)/\k<=n/\(∀i,i<k->Bv left d arr a i=true)/\(∀i,k<=i->i<n->Bv left d arr a i=false)) ?step ?fin ⟨rfl,lo,k,rfl,u,y,by lia,T,Z⟩) ?post)
  case fin =>
   rintro c o ⟨rfl,lo,k,rfl,t,B,q,p,C⟩
   have:lo=k:=by lia
   subst this;exact⟨rfl,lo,rfl,B,p,C⟩
  case post =>
   rintro c o ⟨rfl,k,rfl,B,p,C⟩
   rw[hg];exact aA (h k B p C)
  case step =>
   rintro x c o _ X ⟨rfl,lo,k,rfl,t,B,q,p,C⟩
   by_cases D:lo>=k
   ·rw[L x lo k D];have:lo=k:=by lia
    subst this;exact aA ⟨rfl,lo,rfl,B,p,C⟩
   ·refine M x lo k D _ (λe=>⟨rfl,_,_,rfl,by lia,by lia,by lia,λi hi'=>mono i _ (by lia) (by lia) e,C⟩) (λe=>⟨rfl,_,_,rfl,(fB _ _),by lia,by lia,p,λi u y=>down _ i u y e⟩) B
 refine ak (tJ hk H J (by lia) ?_)
 dsimp only
 cases Y:Bv left d arr a b with
 | true =>
  rw[if_pos rfl];refine ak (ej (ei
   (I:=λx c o=>o=st/\∃l of,c=(none,l,of)/\l<of/\x<of/\b+l<n/\Bv left d arr a (b+l)=true)
   (Q:=λc o=>o=st/\∃l of,c=(none,l,of)/\l<of/\b+l<n/\Bv left d arr a (b+l)=true/\(∀i,b+min of (n-b)<=i->i<n->Bv left d arr a i=false)) ?step ?fin ⟨rfl,0,1,rfl,(au _),(au _),by lia,Y⟩) ?post)
  case fin =>
   rintro c o ⟨rfl,l,of,rfl,t,B,q,p⟩
   exact⟨rfl,l,of,rfl,t,q,p,λi u y=>by lia⟩
  case step =>
   rintro x c o _ X ⟨rfl,l,of,rfl,t,B,q,p⟩
   dsimp only
   by_cases ho:of>=n-b
   ·rw[if_pos ho];exact aA ⟨rfl,l,of,rfl,t,q,p,λi u y=>by lia⟩
   ·rw[if_neg ho];refine ak (m:=bey left d arr a (b+of)) (tJ hk H J (by lia) ?_)
    dsimp only
    cases v:Bv left d arr a (b+of)with
    | true=>exact aA ⟨rfl,of,2*of+1,rfl,by lia,by lia,by lia,v⟩
    | false=>exact aA ⟨rfl,l,of,rfl,t,q,p,λi u y=>down _ i (by lia) y v⟩
  case post =>
   rintro c o ⟨rfl,l,of,rfl,t,q,p,C⟩
   dsimp only
   refine bin _ _ (by lia) (by lia) (λi k=>mono i _ (by lia) q p) C (λx lo k D=>?_) (λx lo k D P N R hn=>?_) (λlo k=>rfl)
   ·grind
   ·dsimp only
    rw[if_neg D];refine ak (m:=bey left d arr a _) (tJ hk H J (by lia) ?_)
    dsimp only
    cases v:Bv left d arr a (lo+(k-lo)/2)with
    | true=>exact aA (N v)
    | false=>exact aA (R v)
 | false =>
  rw[if_neg (by simp)]
  refine ak (ej (ei
   (I:=λx c o=>o=st/\∃l of,c=(none,l,of)/\l<of/\x<of/\l<=b/\Bv left d arr a (b-l)=false)
   (Q:=λc o=>o=st/\∃l of,c=(none,l,of)/\l<of/\l<=b/\Bv left d arr a (b-l)=false/\(∀i,i<b+1-min of (b+1)->Bv left d arr a i=true)) ?step ?fin ⟨rfl,0,1,rfl,(au _),(au _),(dn _),Y⟩) ?post)
  case fin =>
   rintro c o ⟨rfl,l,of,rfl,t,B,q,p⟩
   exact⟨rfl,l,of,rfl,t,q,p,λi u=>by lia⟩
  case step =>
   rintro x c o _ X ⟨rfl,l,of,rfl,t,B,q,p⟩
   dsimp only
   by_cases ho:of>=b+1
   ·rw[if_pos ho];exact aA ⟨rfl,l,of,rfl,t,q,p,λi u=>by lia⟩
   ·rw[if_neg ho];refine ak (m:=bey left d arr a (b-of)) (tJ hk H J (by lia) ?_)
    dsimp only
    cases v:Bv left d arr a (b-of)with
    | true=>exact aA ⟨rfl,l,of,rfl,t,q,p,λi u=>mono i _ (by lia) (by lia) v⟩
    | false=>exact aA ⟨rfl,of,2*of+1,rfl,by lia,by lia,(pF ‹_›),v⟩
  case post =>
   rintro c o ⟨rfl,l,of,rfl,t,q,p,C⟩
   dsimp only
   refine bin _ _ (by lia) (by lia) C (λi u y=>down _ i u y p) (λx lo k D=>?_) (λx lo k D P N R hn=>?_) (λlo k=>rfl)
   ·dsimp only;rw[if_pos D]
   ·dsimp only
    rw[if_neg D];refine ak (m:=bey left d arr a _) (tJ hk H J (by lia) ?_)
    dsimp only
    cases v:Bv left d arr a (lo+(k-lo)/2)with
    | true=>exact aA (N v)
    | false=>exact aA (R v)
abbrev ky(x:Keyed):Int:=numOf x.1
abbrev le(x y:Keyed):Prop:=ky x<=ky y
abbrev ge(x y:Keyed):Prop:=ky y<=ky x
section
variable {R:Keyed->Keyed->Prop}
structure G (R:Keyed->Keyed->Prop) (a b out:List Keyed) (ia ib:Nat):Prop where
 perm:out.Perm (a.take ia++b.take ib)
 up:out.Pairwise R
 ga:∀x∈out,∀y∈a.drop ia,R x y
 gb:∀x∈out,∀y∈b.drop ib,R x y
def G.symm{a b out:List Keyed}{c d:Nat}(g:G R a b out c d):G R b a out d c:=⟨g.perm.trans xZ,g.up,g.gb,g.ga⟩
def GL{a:List Keyed}{i:Nat}{x:Keyed}(h:a[i]?=some x):a.drop i=x::a.drop (i+1):=by
 obtain⟨b,rfl⟩:=bW.mp h;exact ph b
def Tz{a:List Keyed}(c:a.Pairwise R){i:Nat}{x:Keyed}(h:a[i]?=some x):∀y∈a.drop (i+1),R x y:=by
 have b:(a.drop i).Pairwise R:=DV c;rw[GL h]at b;exact(yc.mp b).1
def G.push{a b out:List Keyed}{e f:Nat}(g:G R a b out e f)(i:a.Pairwise R){x:Keyed}(h:a[e]?=some x)(j:∀y∈b.drop f,R x y):G R a b (out++[x]) (e+1) f:=by
 have hd:=GL h;refine⟨?_,?_,?_,?_⟩
 ·rw[D1,h];show(out++[x]).Perm (a.take e++[x]++b.take f);refine(g.perm.append_right [x]).trans ?_;rw[b7,b7];exact xZ.append_left _
 ·refine sx.mpr ⟨g.up,List.pairwise_singleton _ _,λy c z d=>?_⟩
  rw[aV]at d;subst d;exact g.ga y c z (by grind)
 ·intro y c z d;rcases bI.mp c with c | c
  ·exact g.ga y c z (by grind)
  ·rw[aV]at c;subst c;exact Tz i h z d
 ·intro y c z d;rcases bI.mp c with c | c
  ·exact g.gb y c z d
  ·grind
theorem G.more{a b out:List Keyed}{c d:Nat}(g:G R a b out c d)(j:a.Pairwise R):∀(k:Nat),c+k<=a.length->(∀(i:Nat) (x:Keyed),i<k->a[c+i]?=some x->∀y∈b.drop d,R x y)->G R a b (out++(a.drop c).take k) (c+k) d
 | 0,_,_=>by simpa using g
 | k+1,hk,h=>by
  have l:=g.more j k (d9 ‹_›) λi x o=>h i x (DP ‹_›)
  obtain⟨x,f⟩:∃x,a[c+k]?=some x:=⟨_,b6 (by lia)⟩
  have m:=l.push j f (h k x (au _) f);have e:(a.drop c).take (k+1)=(a.drop c).take k++[x]:=by
   rw[D1,List.getElem?_drop,f];rfl
  rw[e,<-b7];exact m
def i8(R:Keyed->Keyed->Prop)(a b r:List Keyed):Prop:=r.Perm (a++b)/\r.Pairwise R
def i8.symm{a b r:List Keyed}(g:i8 R a b r):i8 R b a r:=⟨g.1.trans xZ,g.2⟩
def G.fin{a b out:List Keyed}{d f:Nat}(g:G R a b out d f)(j:a.Pairwise R)(k:b.Pairwise R)(h:∀x∈a.drop d,∀y∈b.drop f,R x y):i8 R a b (out++a.drop d++b.drop f):=by
 refine⟨?_,?_⟩
 ·refine((g.perm.append_right _).append_right _).trans ?_;have e:a++b=(a.take d++a.drop d)++(b.take f++b.drop f):=by simp_all
  rw[e,b7,b7,b7];refine List.Perm.append_left _ ?_;rw[<-b7,<-b7];exact xZ.append_right _
 ·refine sx.mpr ⟨sx.mpr ⟨g.up,DV j,λx c y i=>g.ga x c y i⟩,DV k,λx c y i=>?_⟩
  rcases bI.mp c with c | c
  ·exact g.gb x c y i
  ·grind
end
def up(l:List Keyed):Prop:=l.Pairwise le
def LP{a b r:List Keyed}(g:i8 ge a.reverse b.reverse r):i8 le a b r.reverse:=by
 refine⟨(D3 r).trans (g.1.trans ((D3 a).append (D3 b))),?_⟩;rw[List.pairwise_reverse];exact g.2
def yN{a:List Keyed}(h:up a):a.reverse.Pairwise ge:=by
 rw[List.pairwise_reverse];exact h
def Sm(st a:SortSt):Prop:=kindOf a=kindOf st/\arrOf a=arrOf st/\pendingOf a=pendingOf st/\failedOf a=failedOf st
def Bn:Array Keyed->Array Keyed->StateT SortSt Sem (Array Keyed):=sortPriv% PySem.Builtin.mergeLo
def kX(a:Array Keyed)(i:Nat):(a.extract i a.size).toList=a.toList.drop i:=by
 rw[pC,List.extract_eq_drop_take,<-de];exact pj (by grind)
def Bo(a:Array Keyed)(i k:Nat):(a.extract i (i+k)).toList=(a.toList.drop i).take k:=by
 simp_all
def nQ{a:Array Keyed}{i:Nat}{x:Keyed}(h:a[i]?=some x):a.toList[i]?=some x:=by grind
def vv{a:Array Keyed}{i:Nat}{x:Keyed}(h:a[i]?=some x):K a i=ky x:=by unfold K;rw[h]
def jm{a:Array Keyed}{i:Nat}{y:Keyed}(h:y∈a.toList.drop i):∃j,i<=j/\j<a.size/\a[j]?=some y/\K a j=ky y:=by
 obtain⟨n,c,e⟩:=DU.mp h;rw[yn,de]at c;have b:a[i+n]?=some y:=by
  grind
 exact⟨i+n,(fB _ _),by lia,b,vv b⟩
def qX{a:Array Keyed}(b:up a.toList){i j:Nat}(h:i<=j)(c:j<a.size):K a i<=K a j:=by
 obtain⟨x,d,e1⟩:=fK (arr:=a) (i:=i) (iV ‹_› ‹_›);obtain⟨y,f,g⟩:=fK c;by_cases e:i=j
 ·subst e;exact pQ _
 ·rw[e1,g];refine Tz b (nQ d) y ?_;rw[pz];exact⟨j-(i+1),by rw[List.getElem?_drop,show i+1+(j-(i+1))=j by lia];exact nQ f⟩
def rG{left:Bool}{c:Keyed}{a:Array Keyed}(e:up a.toList){b n:Nat}(f:b+n<=a.size):∀i j,i<=j->j<n->Bv left c a b j=true->Bv left c a b i=true:=λi j g h d=>by
 have:=qX e (i:=b+i) (j:=b+j) (by lia) (by lia)
 unfold Bv at d ⊢;cases left with
 | true=>simp only[iZ,kK]at d ⊢;lia
 | false=>simp only[jF,fF,yh,DL]at d ⊢;lia
def IT{c:Keyed}{a:Array Keyed}{b i:Nat}:(Bv true c a b i=true↔K a (b+i)<ky c)/\(Bv true c a b i=false↔ky c<=K a (b+i)):=by
 unfold Bv;simp
def IU{c:Keyed}{a:Array Keyed}{b i:Nat}:(Bv false c a b i=true↔K a (b+i)<=ky c)/\(Bv false c a b i=false↔ky c<K a (b+i)):=by
 unfold Bv;simp
def Sm.refl(st:SortSt):Sm st st:=⟨rfl,rfl,rfl,rfl⟩
section
variable {a b:Array Keyed} {st:SortSt}
abbrev lo1(a b:Array Keyed)(st:SortSt)(x:Nat)(c:Option (Array Keyed)×Array Keyed×Nat×Nat×Nat)(g:SortSt):Prop:=Sm st g/\∃d e f h,c=(none,d,e,f,h)/\G le a.toList b.toList d.toList e f/\e+1<a.size/\f<b.size/\x+1<=e+f
abbrev lq1(a b:Array Keyed)(st:SortSt)(c:Option (Array Keyed)×Array Keyed×Nat×Nat×Nat)(d:SortSt):Prop:=Sm st d/\∃r,c.1=some r/\i8 le a.toList b.toList r.toList
abbrev lo2(a b:Array Keyed)(st:SortSt)(x:Nat)(y:Nat)(c:Option (Array Keyed)×Array Keyed×Nat×Nat×Nat×Nat)(g:SortSt):Prop:=Sm st g/\∃d e f h i,c=(none,d,e,f,h,i)/\G le a.toList b.toList d.toList e f/\e+1<a.size/\f<b.size/\x+1+min y 1<=e+f
abbrev lq2(a b:Array Keyed)(st:SortSt)(x:Nat)(c:Option (Array Keyed)×Array Keyed×Nat×Nat×Nat×Nat)(g:SortSt):Prop:=Sm st g/\((∃r,c.1=some r/\i8 le a.toList b.toList r.toList)\/∃d e f h i,c=(none,d,e,f,h,i)/\G le a.toList b.toList d.toList e f/\e+1<a.size/\f<b.size/\x+2<=e+f)
abbrev lo3(a b:Array Keyed)(st:SortSt)(x:Nat)(y:Nat)(c:Option (Array Keyed)×Array Keyed×Nat×Nat×Nat×Nat×Nat)(g:SortSt):Prop:=Sm st g/\∃d e f h i j,c=(none,d,e,f,h,i,j)/\G le a.toList b.toList d.toList e f/\e+1<a.size/\f<b.size/\x+2<=e+f
abbrev lq3(a b:Array Keyed)(st:SortSt)(x:Nat)(c:Option (Array Keyed)×Array Keyed×Nat×Nat×Nat×Nat×Nat)(g:SortSt):Prop:=Sm st g/\((∃r,c.1=some r/\i8 le a.toList b.toList r.toList)\/∃d e f h i j,c=(none,d,e,f,h,i,j)/\G le a.toList b.toList d.toList e f/\e+1<a.size/\f<b.size/\x+2<=e+f)
def bF{M:Model}{d f:Type}{c:Prop} [Decidable c] {t e:StateT d Sem f} {Q:f->d->Prop} {st:d} (h1:c->wpS M A E s t Q st) (g:¬c->wpS M A E s e Q st):wpS M A E s (if c then t else e) Q st:=by
 split
 ·exact h1 ‹_›
 ·exact g ‹_›
noncomputable abbrev mgS(m:Nat)(st:SortSt):SortSt:=SortSt.mk' (kindOf st) (arrOf st) (pendingOf st) m (failedOf st)
abbrev Y7{d e:Type}(Q I:d->e->Prop)(r:ForInStep d)(f:e):Prop:=match r with | .done c=>Q c f | .yield c=>I c f
def EE{Q:Array Keyed->SortSt->Prop}(hk:kindOf st=oneType')(V1:IntKeys a)(V2:IntKeys b)(X:up a.toList)(Y:up b.toList)(na:0<a.size)(nb:0<b.size)
  (first:K b 0<=K a 0) (gq:∀y∈b.toList,ky y<=K a (a.size-1)) (h:∀r v,Sm st v->i8 le a.toList b.toList r.toList->Q r v):wpS (model prog w) A E s (Bn a b) Q st:=by
 have pm:∀{n x y:Nat},x+2<=n->x+1+min (y+1) 1<=n:=λh=>by lia
 have tK:∀{out:Array Keyed} {i j:Nat},G le a.toList b.toList out.toList i j->(i=a.size\/j=b.size)->i8 le a.toList b.toList (out++a.extract i a.size++b.extract j b.size).toList:=λ{out i j} g H=>by
  rw[jE,jE,kX,kX];refine g.fin X Y λx D y hy=>?_
  rcases H with rfl | rfl
  ·rw[<-de,sM]at D;cases D
  ·rw[<-de,sM]at hy;cases hy
 have yO:∀{out:Array Keyed} {i j:Nat},G le a.toList b.toList out.toList i j->i+1=a.size->i8 le a.toList b.toList (out++b.extract j b.size++a.extract i a.size).toList:=λ{out i j} g H=>by
  rw[jE,jE,kX,kX];refine(g.symm.fin Y X λx D y hy=>?_).symm
  obtain⟨m,h1,h2,h3,h4⟩:=jm hy;have:=gq x (List.mem_of_mem_drop D);show ky x<=ky y;rw[<-h4,show m=a.size-1 by lia]
  exact this
 have pB:∀{out:Array Keyed} {i j:Nat} {J:Keyed},G le a.toList b.toList out.toList i j->b[j]?=some J->(∀m,i<=m->m<a.size->ky J<=K a m)->G le a.toList b.toList (out.push J).toList i (j+1):=λg hb H=>by
  rw[yg];exact(g.symm.push Y (nQ hb) λz TC=>by
   obtain⟨m,B,t,q3,Z⟩:=jm TC;exact dm (H m B t) (iY Z)).symm
 have pA:∀{out:Array Keyed} {i j:Nat} {M:Keyed},G le a.toList b.toList out.toList i j->a[i]?=some M->(∀m,j<=m->m<b.size->ky M<=K b m)->G le a.toList b.toList (out.push M).toList (i+1) j:=λg hb H=>by
  rw[yg];exact g.push X (nQ hb) λz TC=>by
   obtain⟨m,B,t,q3,Z⟩:=jm TC;exact dm (H m B t) (iY Z)
 refine ak (kT (gz ⟨rfl,?_⟩));obtain⟨b0,hb0,eb0⟩:=fK nb;refine ak (cq hb0 ?_);have g0:G le a.toList b.toList (#[b0]:Array Keyed).toList 0 1:=pB (out:=#[]) (G.mk (by simp) .nil (λ_ z=>nomatch z) (λ_ z=>nomatch z)) hb0 λm _ t=>dm (iY eb0.symm) (dm first (qX X (dn m) t))
 refine bF (λh1=>aA (h _ _ (Sm.refl st) (tK g0 (.inr (bu.mp h1))))) λh1=>?_
 refine bF (λh2=>aA (h _ _ (Sm.refl st) (yO g0 (bu.mp h2)))) λh2=>?_
 rw[bu]at h1 h2;refine ak (fg ?_);refine ak (ej (ei
  (I:=lo1 a b st)
  (Q:=lq1 a b st) ?step ?fin ⟨Sm.refl st,_,_,_,_,rfl,g0,by lia,by lia,(au _)⟩) ?post)
 case fin =>
  rintro c v ⟨_,out,l,f,mg,_,_,u,q,N⟩
  lia
 case post =>
  rintro⟨_,c⟩ v ⟨d,r,rfl,g⟩
  exact aA (h r v d g)
 case step =>
  rintro x c v _ D ⟨d,out,l,f,mg,rfl,g,u,q,N⟩
  refine ak (ej (ei
   (I:=lo2 a b st x)
   (Q:=lq2 a b st x) ?Bp ?LQ ⟨d,_,_,_,_,_,rfl,g,u,q,‹_›⟩) ?Bq)
  case LQ =>
   rintro c v ⟨d,out,l,f,ac,bc,rfl,g,u,q,N⟩
   exact⟨d,.inr ⟨out,l,f,ac,bc,rfl,g,u,q,by lia⟩⟩
  case Bp =>
   rintro y c v _ hy ⟨d,out,l,f,ac,bc,rfl,g,u,q,N⟩
   obtain⟨J,R,V3⟩:=fK (arr:=b) (i:=f) q;obtain⟨M,T,V4⟩:=fK (arr:=a) (i:=l) (d9 ‹_›);refine ak (m:=elem' b f) (cq R ?_);refine ak (m:=elem' a l) (cq T ?_);refine ak (m:=lt' J M) (Bm (d.1.trans hk) (f9 V2 R) (f9 V1 T) ?_);refine bF (λhw=>?_) λhw=>?_
   ·have g1:=pB g R λm B t=>dm (kQ (dw hw)) (dm (iY V4.symm) (qX X B t))
    refine ak (m:=elem' b f) (cq R ?_);refine bF (λe1=>aA ⟨d,.inl ⟨_,rfl,tK g1 (.inr (bu.mp e1))⟩⟩) λe1=>?_
    have e1:=sH q λz=>e1 (bu.mpr z)
    have L:x+2<=l+(f+1):=by lia
    exact bF (λ_=>aA ⟨d,.inr ⟨_,_,_,_,_,rfl,g1,u,e1,L⟩⟩) λ_=>aA ⟨d,_,_,_,_,_,rfl,g1,u,e1,pm L⟩
   ·have g1:=pA g T λm B t=>dm (dm (Int.not_lt.mp λz=>hw (dE z)) (iY V3.symm)) (qX Y B t)
    refine ak (m:=elem' a l) (cq T ?_);refine bF (λe1=>aA ⟨d,.inl ⟨_,rfl,yO g1 (bu.mp e1)⟩⟩) λe1=>?_
    have e1:=sH u λz=>e1 (bu.mpr z)
    have L:x+2<=l+1+f:=by lia
    exact bF (λ_=>aA ⟨d,.inr ⟨_,_,_,_,_,rfl,g1,e1,q,L⟩⟩) λ_=>aA ⟨d,_,_,_,_,_,rfl,g1,e1,q,pm L⟩
  case Bq =>
   rintro⟨_,c⟩ v ⟨d,⟨r,rfl,gr⟩ | ⟨out,l,f,ac,bc,e,g,u,q,N⟩⟩
   ·exact aA ⟨d,r,rfl,gr⟩
   cases e;refine ak (kT (gz ⟨rfl,?_⟩));refine ak (ej (ei
    (I:=lo3 a b st x)
    (Q:=lq3 a b st x) ?Br ?LR ⟨d,_,_,_,_,_,_,rfl,g,u,q,‹_›⟩) ?Bs)
   case LR =>
    rintro c v ⟨d,out,l,f,mg,ac,bc,rfl,g,u,q,N⟩
    exact⟨d,.inr ⟨out,l,f,mg,ac,bc,rfl,g,u,q,N⟩⟩
   case Bs =>
    rintro⟨_,c⟩ v ⟨d,⟨r,rfl,gr⟩ | ⟨out,l,f,mg,ac,bc,e,g,u,q,N⟩⟩
    ·exact aA ⟨d,r,rfl,gr⟩
    ·cases e;refine ak (gA ?_);exact aA ⟨d,_,_,_,_,rfl,g,u,q,‹_›⟩
   case Br =>
    rintro y c v _ hy ⟨d,out,l,f,mg,ac,bc,rfl,g,u,q,N⟩
    obtain⟨J,R,V3⟩:=fK (arr:=b) (i:=f) q
    extract_lets +onlyGivenNames _ _ _ _ _ _ _ _ _ _ _ _ jp
    have hj:∀m,wpS (model prog w) A E s (jp () m) (Y7 (lq3 a b st x) (lo3 a b st x (y+1))) v:=λm=>by
     refine ak (gA ?_);refine ak (m:=elem' b f) (cq R ?_);refine ak (m:=jO false J a l (a.size-l) 0) (ie (d.1.trans hk) V1 (f9 V2 R) (by lia) (by lia) (rG X (by lia)) λk k1 k2 k3=>?_)
     dsimp -zeta only
     extract_lets +onlyGivenNames _ jp2
     have hj2:∀o C,G le a.toList b.toList o.toList C f->C+1<a.size->(∀m,C<=m->m<a.size->ky J<K a m)->x+2<=C+f->wpS (model prog w) A E s (jp2 () o C) (Y7 (lq3 a b st x) (lo3 a b st x (y+1))) (mgS m v):=λo C gk w1 w2 w3=>by
      have gb:=pB gk R λm B t=>kQ (w2 m B t)
      refine ak (m:=elem' b f) (cq R ?_);refine bF (λe3=>aA ⟨d,.inl ⟨_,rfl,tK gb (.inr (bu.mp e3))⟩⟩) λe3=>?_
      have e3:=sH q λz=>e3 (bu.mpr z)
      obtain⟨M,T,V4⟩:=fK (arr:=a) (i:=C) (d9 ‹_›);refine ak (m:=elem' a C) (cq T ?_);refine ak (m:=jO true M b (f+1) (b.size-(f+1)) 0) (ie (d.1.trans hk) V2 (f9 V1 T) (by lia) (by lia) (rG Y (by lia)) λk' l1 l2 l3=>?_)
      have v2:∀m,f+1+k'<=m->m<b.size->ky M<=K b m:=λm B t=>by
       have:=IT.2.mp (l3 (m-(f+1)) (by lia) (by lia))
       rwa [show f+1+(m-(f+1))=m by lia]at this
      dsimp -zeta only
      extract_lets +onlyGivenNames _ _ jp3
      have hj3:∀p jb,G le a.toList b.toList p.toList C jb->jb<b.size->(∀m,jb<=m->m<b.size->ky M<=K b m)->x+2<=C+jb->wpS (model prog w) A E s (jp3 () p jb) (Y7 (lq3 a b st x) (lo3 a b st x (y+1))) (mgS m v):=λp jb gl v1 v2 v3=>by
       have gf:=pA gl T v2;refine ak (m:=elem' a C) (cq T ?_);refine bF (λe5=>aA ⟨d,.inl ⟨_,rfl,yO gf (bu.mp e5)⟩⟩) λe5=>?_
       have e5:=sH w1 λz=>e5 (bu.mpr z)
       have e6:x+2<=C+1+jb:=by lia
       exact bF (λ_=>aA ⟨d,.inr ⟨_,_,_,_,_,_,rfl,gf,e5,v1,e6⟩⟩) λ_=>aA ⟨d,_,_,_,_,_,_,rfl,gf,e5,v1,e6⟩
      refine bF (λY8=>?_) λY8=>hj3 _ _ gb e3 (by rwa [Nat.eq_zero_of_not_pos Y8]at v2) (Nat.le_succ_of_le w3)
      have gl:G le a.toList b.toList (o.push J++b.extract (f+1) (f+1+k')).toList C (f+1+k'):=by
       rw[jE,Bo];refine(gb.symm.more Y k' (by rw[de];lia) λi x hi D z H=>?_).symm
       obtain⟨m,B,t,q3,Z⟩:=jm H;have u1:=IT.1.mp (l2 i hi);have u2:=qX X B t;rw[mG]at D;rw[vv D]at u1;rw[V4,Z]at u2;exact dm (kQ u1) u2
      exact bF (λe4=>aA ⟨d,.inl ⟨_,rfl,tK gl (.inr (bu.mp e4))⟩⟩) λe4=>hj3 _ (f+1+k') gl (sH (by lia) λz=>e4 (bu.mpr z)) v2 (by lia)
     have w2:∀m,l+k<=m->m<a.size->ky J<K a m:=λm B t=>by
      have:=IU.2.mp (k3 (m-l) (by lia) (by lia))
      rwa [show l+(m-l)=m by lia]at this
     refine bF (λOZ=>?_) λOZ=>hj2 _ _ g u (by rwa [Nat.eq_zero_of_not_pos OZ]at w2) N
     have gk:G le a.toList b.toList (out++a.extract l (l+k)).toList (l+k) f:=by
      rw[jE,Bo];refine g.more X k (by rw[de];lia) λi x hi D z H=>?_
      obtain⟨m,B,t,q3,Z⟩:=jm H;have u1:=IU.1.mp (k2 i hi);have u2:=qX Y B t;rw[mG]at D;rw[vv D]at u1;rw[V3,Z]at u2;exact dm u1 u2
     refine bF (λe1=>aA ⟨d,.inl ⟨_,rfl,yO gk (bu.mp e1)⟩⟩) λe1=>?_
     refine bF (λL=>aA ⟨d,.inl ⟨_,rfl,tK gk (.inl (bu.mp L))⟩⟩) λL=>?_
     have e1:¬l+k+1=a.size:=λz=>e1 (bu.mpr z)
     have L:¬l+k=a.size:=λz=>L (bu.mpr z)
     exact hj2 _ (l+k) gk (by lia) w2 (by lia)
    exact bF (λ_=>hj _) λ_=>hj _
def Hi(a b out:Array Keyed)(c nb:Nat):Prop:=c<=a.size/\nb<=b.size/\G ge a.toList.reverse b.toList.reverse out.toList (a.size-c) (b.size-nb)
def Hi.symm{a b out:Array Keyed}{c nb:Nat}(g:Hi a b out c nb):Hi b a out nb c:=⟨g.2.1,g.1,g.2.2.symm⟩
def ir{a:Array Keyed}{c:Nat}(h:c<=a.size):a.toList.reverse.drop (a.size-c)=(a.toList.take c).reverse:=by
 rw[List.drop_reverse,de,show a.size-(a.size-c)=c by lia]
def gK{a:Array Keyed}{n:Nat}{y:Keyed}(h:y∈a.toList.take n):∃m,m<n/\m<a.size/\a[m]?=some y/\K a m=ky y:=by
 obtain⟨m,d,e⟩:=DU.mp h;rw[iW,de]at d;have c:a[m]?=some y:=by
  grind
 exact⟨m,by lia,by lia,c,vv c⟩
def V5{a:Array Keyed}{c:Nat}{x:Keyed}(d:0<c)(e:c<=a.size)(f:a[c-1]?=some x):a.toList.reverse[a.size-c]?=some x:=by
 grind
def Hi.push{a b out:Array Keyed}{c nb:Nat}(g:Hi a b out c nb)(f:up a.toList)(h:0<c){x:Keyed}(i:a[c-1]?=some x)(j:∀y∈b.toList.take nb,ky y<=ky x):Hi a b (out.push x) (c-1) nb:=by
 obtain⟨k,d,g⟩:=g;refine⟨by lia,d,?_⟩
 rw[yg,show a.size-(c-1)=a.size-c+1 by lia]
 refine g.push (yN f) (V5 h k i) λy e=>?_
 rw[ir d,yo]at e;exact j y e
def Hi.more{a b out:Array Keyed}{d nb c:Nat}(g:Hi a b out d nb)(k:up a.toList)(p:c<=d)(l:∀(i:Nat) (x:Keyed),c<=i->i<d->a[i]?=some x->∀y∈b.toList.take nb,ky y<=ky x):Hi a b (out++(a.extract c d).reverse) c nb:=by
 obtain⟨m,f,g⟩:=g;refine⟨bA ‹_› ‹_›,f,?_⟩;have o:=g.more (yN k) (d-c) (by grind) λi x q h y j=>by
  rw[ir f,yo]at j;rw[List.getElem?_reverse (by grind),de,mG]at h
  exact l (a.size-1-(a.size-d+i)) x (by lia) (by lia) h y j
 have e:(a.toList.reverse.drop (a.size-d)).take (d-c)=((a.extract c d).reverse).toList:=by
  rw[ir m,List.take_reverse,iW,de,show min d a.size-(d-c)=c by lia,List.drop_take,Array.toList_reverse,pC,List.extract_eq_drop_take]
 rw[jE,<-e,show a.size-c=a.size-d+(d-c) by lia]
 exact o
def V6(a:Array Keyed)(n:Nat):(a.extract 0 n).toList=a.toList.take n:=by
 simp_all
def Hi.fin{a b out:Array Keyed}{c nb:Nat}(g:Hi a b out c nb)(j:up a.toList)(k:up b.toList)(h:∀y∈b.toList.take nb,∀x∈a.toList.take c,ky y<=ky x):i8 le a.toList b.toList (b.extract 0 nb++a.extract 0 c++out.reverse).toList:=by
 obtain⟨d,e,g⟩:=g;have:=LP (g.fin (yN j) (yN k) λx f y i=>by
  rw[ir d,yo]at f;rw[ir e,yo]at i;exact h y i x f)
 rw[ir d,ir e,List.reverse_append,List.reverse_append,List.reverse_reverse,List.reverse_reverse]at this;rw[jE,jE,V6,V6,Array.toList_reverse,b7];exact this
def Bt:Array Keyed->Array Keyed->StateT SortSt Sem (Array Keyed):=sortPriv% PySem.Builtin.mergeHi
abbrev hi1(a b:Array Keyed)(st:SortSt)(x:Nat)(c:Option (Array Keyed)×Nat×Nat×Array Keyed×Nat)(g:SortSt):Prop:=Sm st g/\∃e f d h,c=(none,e,f,d,h)/\Hi a b d e f/\0<e/\1<f/\e+f+x+1<=a.size+b.size
abbrev hq1(a b:Array Keyed)(st:SortSt)(c:Option (Array Keyed)×Nat×Nat×Array Keyed×Nat)(d:SortSt):Prop:=Sm st d/\∃r,c.1=some r/\i8 le a.toList b.toList r.toList
abbrev hi2(a b:Array Keyed)(st:SortSt)(x:Nat)(y:Nat)(c:Option (Array Keyed)×Nat×Nat×Array Keyed×Nat×Nat)(g:SortSt):Prop:=Sm st g/\∃e f d h i,c=(none,e,f,d,h,i)/\Hi a b d e f/\0<e/\1<f/\e+f+x+1+min y 1<=a.size+b.size
abbrev hq2(a b:Array Keyed)(st:SortSt)(x:Nat)(c:Option (Array Keyed)×Nat×Nat×Array Keyed×Nat×Nat)(g:SortSt):Prop:=Sm st g/\((∃r,c.1=some r/\i8 le a.toList b.toList r.toList)\/∃e f d h i,c=(none,e,f,d,h,i)/\Hi a b d e f/\0<e/\1<f/\e+f+x+2<=a.size+b.size)
abbrev hi3(a b:Array Keyed)(st:SortSt)(x:Nat)(y:Nat)(c:Option (Array Keyed)×Nat×Nat×Array Keyed×Nat×Nat×Nat)(g:SortSt):Prop:=Sm st g/\∃e f d h i j,c=(none,e,f,d,h,i,j)/\Hi a b d e f/\0<e/\1<f/\e+f+x+2<=a.size+b.size
abbrev hq3(a b:Array Keyed)(st:SortSt)(x:Nat)(c:Option (Array Keyed)×Nat×Nat×Array Keyed×Nat×Nat×Nat)(g:SortSt):Prop:=Sm st g/\((∃r,c.1=some r/\i8 le a.toList b.toList r.toList)\/∃e f d h i j,c=(none,e,f,d,h,i,j)/\Hi a b d e f/\0<e/\1<f/\e+f+x+2<=a.size+b.size)
def EF{Q:Array Keyed->SortSt->Prop}(hk:kindOf st=oneType')(V1:IntKeys a)(V2:IntKeys b)(T:up a.toList)(Z:up b.toList)(na:0<a.size)(nb:0<b.size)
  (first:K b 0<=K a 0) (gq:∀y∈b.toList,ky y<=K a (a.size-1)) (h:∀r B,Sm st B->i8 le a.toList b.toList r.toList->Q r B):wpS (model prog w) A E s (Bt a b) Q st:=by
 have pm:∀{n m x y:Nat},m+x+2<=n->m+x+1+min (y+1) 1<=n:=λh=>by lia
 have tK:∀{out:Array Keyed} {i j:Nat},Hi a b out i j->(i=0\/j=0)->i8 le a.toList b.toList (a.extract 0 i++b.extract 0 j++out.reverse).toList:=λ{out i j} g H=>by
  refine(g.symm.fin Z T λx X y hy=>?_).symm
  rcases H with rfl | rfl
  ·cases X
  ·cases hy
 have yO:∀{out:Array Keyed} {i j:Nat},Hi a b out i j->j=1->i8 le a.toList b.toList (b.extract 0 j++a.extract 0 i++out.reverse).toList:=λ{out i j} g H=>by
  refine g.fin T Z λy hy x X=>?_
  obtain⟨m,h1,h2,h3,h4⟩:=gK hy;obtain⟨n,n1,n2,n3,n4⟩:=gK X;rw[<-h4,<-n4,show m=0 by lia]
  exact dm first (qX T (dn n) n2)
 have pA:∀{out:Array Keyed} {i j:Nat} {L:Keyed},Hi a b out i j->0<i->a[i-1]?=some L->(∀m,m<j->m<b.size->K b m<=ky L)->Hi a b (out.push L) (i-1) j:=λg h0 ha H=>g.push T h0 ha λz TC=>by
  obtain⟨m,t,q2,q3,q4⟩:=gK TC;exact dm (iY q4.symm) (H m t q2)
 have pB:∀{out:Array Keyed} {i j:Nat} {J:Keyed},Hi a b out i j->0<j->b[j-1]?=some J->(∀m,m<i->m<a.size->K a m<=ky J)->Hi a b (out.push J) i (j-1):=λg h0 hb H=>(g.symm.push Z h0 hb λz TC=>by
  obtain⟨m,t,q2,q3,q4⟩:=gK TC;exact dm (iY q4.symm) (H m t q2)).symm
 refine ak (kT (gz ⟨rfl,?_⟩));obtain⟨a0,ha0,ea0⟩:=fK (arr:=a) (i:=a.size-1) (by lia)
 refine ak (cq ha0 ?_);have g0:Hi a b (#[a0]:Array Keyed) (a.size-1) b.size:=pA (out:=#[]) ⟨au _,au _,by simp,.nil,(λ_ z=>nomatch z),(λ_ z=>nomatch z)⟩ na ha0 λm _ q=>dm (vv (su q)▸gq _ (Array.getElem_mem_toList q)) (iY ea0)
 refine bF (λh1=>aA (h _ _ (Sm.refl st) (tK g0 (.inl (bu.mp h1))))) λh1=>?_
 refine bF (λh2=>aA (h _ _ (Sm.refl st) (yO g0 (bu.mp h2)))) λh2=>?_
 rw[bu]at h1 h2;refine ak (fg ?_);refine ak (ej (ei
  (I:=hi1 a b st)
  (Q:=hq1 a b st) ?step ?fin ⟨Sm.refl st,_,_,_,_,rfl,g0,(yd ‹_›),by lia,by lia⟩) ?post)
 case fin =>
  rintro c B ⟨_,l,d,out,mg,_,_,u,v,M⟩
  lia
 case post =>
  rintro⟨_,c⟩ B ⟨f,r,rfl,g⟩
  exact aA (h r B f g)
 case step =>
  rintro x c B _ X ⟨f,l,d,out,mg,rfl,g,u,v,M⟩
  refine ak (ej (ei
   (I:=hi2 a b st x)
   (Q:=hq2 a b st x) ?Bp ?LQ ⟨f,_,_,_,_,_,rfl,g,u,v,‹_›⟩) ?Bq)
  case LQ =>
   rintro c B ⟨f,l,d,out,ac,bc,rfl,g,u,v,M⟩
   exact⟨f,.inr ⟨l,d,out,ac,bc,rfl,g,u,v,by lia⟩⟩
  case Bp =>
   rintro y c B _ hy ⟨f,l,d,out,ac,bc,rfl,g,u,v,M⟩
   have y1:=g.1;have y2:=g.2.1;obtain⟨J,N,V3⟩:=fK (arr:=b) (i:=d-1) (by lia)
   obtain⟨L,R,V4⟩:=fK (arr:=a) (i:=l-1) (by lia)
   refine ak (m:=elem' b (d-1)) (cq N ?_);refine ak (m:=elem' a (l-1)) (cq R ?_);refine ak (m:=lt' J L) (Bm (f.1.trans hk) (f9 V2 N) (f9 V1 R) ?_);refine bF (λhw=>?_) λhw=>?_
   ·have g1:=pA g u R λm t _=>dm (qX Z (i:=m) (j:=d-1) (by lia) (by lia)) (dm (iY V3) (kQ (dw hw)))
    refine ak (m:=elem' a (l-1)) (cq R ?_);refine bF (λe1=>aA ⟨f,.inl ⟨_,rfl,tK g1 (.inl (bu.mp e1))⟩⟩) λe1=>?_
    have e1:=yd λz=>e1 (bu.mpr z)
    have e2:l-1+d+x+2<=a.size+b.size:=by lia
    exact bF (λ_=>aA ⟨f,.inr ⟨_,_,_,_,_,rfl,g1,e1,v,e2⟩⟩) λ_=>aA ⟨f,_,_,_,_,_,rfl,g1,e1,v,pm e2⟩
   ·have g1:=pB g (d9 v) N λm t _=>dm (qX T (i:=m) (j:=l-1) (by lia) (by lia)) (dm (iY V4) (Int.not_lt.mp λz=>hw (dE z)))
    refine ak (m:=elem' b (d-1)) (cq N ?_);refine bF (λe1=>aA ⟨f,.inl ⟨_,rfl,yO g1 (bu.mp e1)⟩⟩) λe1=>?_
    have e1:¬d-1=1:=λz=>e1 (bu.mpr z)
    have e3:1<d-1:=by lia
    have e2:l+(d-1)+x+2<=a.size+b.size:=by lia
    exact bF (λ_=>aA ⟨f,.inr ⟨_,_,_,_,_,rfl,g1,u,e3,e2⟩⟩) λ_=>aA ⟨f,_,_,_,_,_,rfl,g1,u,e3,pm e2⟩
  case Bq =>
   rintro⟨_,c⟩ B ⟨f,⟨r,rfl,gr⟩ | ⟨l,d,out,ac,bc,e,g,u,v,M⟩⟩
   ·exact aA ⟨f,r,rfl,gr⟩
   cases e;refine ak (kT (gz ⟨rfl,?_⟩));refine ak (ej (ei
    (I:=hi3 a b st x)
    (Q:=hq3 a b st x) ?Br ?LR ⟨f,_,_,_,_,_,_,rfl,g,u,v,‹_›⟩) ?Bs)
   case LR =>
    rintro c B ⟨f,l,d,out,mg,ac,bc,rfl,g,u,v,M⟩
    exact⟨f,.inr ⟨l,d,out,mg,ac,bc,rfl,g,u,v,M⟩⟩
   case Bs =>
    rintro⟨_,c⟩ B ⟨f,⟨r,rfl,gr⟩ | ⟨l,d,out,mg,ac,bc,e,g,u,v,M⟩⟩
    ·exact aA ⟨f,r,rfl,gr⟩
    ·cases e;refine ak (gA ?_);exact aA ⟨f,_,_,_,_,rfl,g,u,v,‹_›⟩
   case Br =>
    rintro y c B _ hy ⟨f,l,d,out,mg,ac,bc,rfl,g,u,v,M⟩
    have y1:=g.1;have y2:=g.2.1;obtain⟨J,N,V3⟩:=fK (arr:=b) (i:=d-1) (by lia)
    extract_lets +onlyGivenNames _ _ _ _ _ _ _ _ _ _ _ _ jp
    have hj:∀m,wpS (model prog w) A E s (jp () m) (Y7 (hq3 a b st x) (hi3 a b st x (y+1))) B:=λm=>by
     refine ak (gA ?_);refine ak (m:=elem' b (d-1)) (cq N ?_);refine ak (m:=jO false J a 0 l (l-1)) (ie (f.1.trans hk) V1 (f9 V2 N) (by lia) (by lia) (rG T (by lia)) λk k1 k2 k3=>?_)
     dsimp -zeta only
     extract_lets +onlyGivenNames _ _ jp2
     have hj2:∀C o,Hi a b o C d->0<C->(∀m,m<C->K a m<=ky J)->C+d+x+2<=a.size+b.size->wpS (model prog w) A E s (jp2 () C o) (Y7 (hq3 a b st x) (hi3 a b st x (y+1))) (mgS m B):=λC o gk w1 w2 w3=>by
      have gb:=pB gk (d9 v) N λm t _=>w2 m t
      refine ak (m:=elem' b (d-1)) (cq N ?_);refine bF (λe3=>aA ⟨f,.inl ⟨_,rfl,yO gb (bu.mp e3)⟩⟩) λe3=>?_
      have e3:¬d-1=1:=λz=>e3 (bu.mpr z)
      have w4:=gk.1;obtain⟨L,R,V4⟩:=fK (arr:=a) (i:=C-1) (by lia)
      refine ak (m:=elem' a (C-1)) (cq R ?_);refine ak (m:=jO true L b 0 (d-1) (d-1-1)) (ie (f.1.trans hk) V2 (f9 V1 R) (by lia) (by lia) (rG Z (by lia)) λY l1 l2 l3=>?_)
      have v2:∀m,m<Y->K b m<=ky L:=λm t=>by
       have:=IT.1.mp (l2 m t);rw[d8]at this;exact kQ this
      dsimp -zeta only
      extract_lets +onlyGivenNames _ _ _ jp3
      have hj3:∀jb p,Hi a b p C jb->1<jb->(∀m,m<jb->K b m<=ky L)->C+jb+x+2<=a.size+b.size->wpS (model prog w) A E s (jp3 () jb p) (Y7 (hq3 a b st x) (hi3 a b st x (y+1))) (mgS m B):=λjb p gl v1 v2 v3=>by
       have gf:=pA gl w1 R λm t _=>v2 m t
       refine ak (m:=elem' a (C-1)) (cq R ?_);refine bF (λD=>aA ⟨f,.inl ⟨_,rfl,tK gf (.inl (bu.mp D))⟩⟩) λD=>?_
       have D:=yd λz=>D (bu.mpr z)
       have e6:C-1+jb+x+2<=a.size+b.size:=by lia
       exact bF (λ_=>aA ⟨f,.inr ⟨_,_,_,_,_,_,rfl,gf,D,v1,e6⟩⟩) λ_=>aA ⟨f,_,_,_,_,_,_,rfl,gf,D,v1,e6⟩
      refine bF (λY8=>?_) λY8=>?_
      ·have gl:Hi a b (o.push J++(b.extract Y (d-1)).reverse) C Y:=(gb.symm.more Z l1 λi x t q2 X z H=>by
        obtain⟨m,p1,p2,p3,p4⟩:=gK H;have u1:=IT.2.mp (l3 i t q2);rw[d8,vv X]at u1;have u2:=qX T (i:=m) (j:=C-1) (by lia) (by lia)
        rw[V4,p4]at u2;exact dm u2 u1).symm
       refine bF (λe4=>aA ⟨f,.inl ⟨_,rfl,yO gl (bu.mp e4)⟩⟩) λe4=>?_
       refine bF (λD=>aA ⟨f,.inl ⟨_,rfl,tK gl (.inr (bu.mp D))⟩⟩) λD=>?_
       have e4:¬Y=1:=λz=>e4 (bu.mpr z)
       have D:¬Y=0:=λz=>D (bu.mpr z)
       exact hj3 Y _ gl (by lia) v2 (by lia)
      ·have Y8:¬d-1-Y>0:=Y8;rw[show Y=d-1 by lia]at v2
       exact hj3 (d-1) _ gb (by lia) v2 (by lia)
     have w2:∀m,m<k->K a m<=ky J:=λm t=>by
      have:=IU.1.mp (k2 m t)
      rwa [d8]at this
     refine bF (λOZ=>?_) λOZ=>?_
     ·have gk:Hi a b (out++(a.extract k l).reverse) k d:=g.more T k1 λi x t q2 X z H=>by
       obtain⟨m,p1,p2,p3,p4⟩:=gK H;have u1:=IU.2.mp (k3 i t q2);rw[d8,vv X]at u1;have u2:=qX Z (i:=m) (j:=d-1) (by lia) (by lia)
       rw[V3,p4]at u2;exact dm u2 (kQ u1)
      exact bF (λe1=>aA ⟨f,.inl ⟨_,rfl,tK gk (.inl (bu.mp e1))⟩⟩) λe1=>hj2 k _ gk (yd λz=>e1 (bu.mpr z)) w2 (by lia)
     ·have OZ:¬l-k>0:=OZ;rw[show k=l by lia]at w2
      exact hj2 l _ g u w2 M
    exact bF (λ_=>hj _) λ_=>hj _
end
end
section
variable {prog:Program} {w:World} {A:Around} {E:Value->Shared->Prop} {s:Shared} {st:SortSt}
theorem GN(b:Nat):∀(l:List Keyed) (i:Nat) (a:Array Keyed),b+i+l.length<=a.size->((l.zipIdx i).foldl (λa (x:Keyed×Nat)=>match x with | (p,j)=>a.setIfInBounds (b+j) p) a).toList=a.toList.take (b+i)++l++a.toList.drop (b+i+l.length)
 | [],i,a,_=>by simp
 | p::l,i,a,h=>by
  rw[aN]at h;rw[List.zipIdx_cons,yq];rw[GN b l (i+1) (a.setIfInBounds (b+i) p) (by grind),Array.toList_setIfInBounds,aN,<-sR b i 1]
  have c:b+i<a.toList.length:=by grind
  rw[List.drop_set_of_lt (fB _ _),D1,List.take_set_of_le (au _),px c,show b+i+(l.length+1)=b+i+1+l.length by lia]
  simp
def vi(a:Array Keyed)(i j:Nat):Prop:=∀p q,i<=p->p<=q->q<j->K a p<=K a q
def tM(h:vi a i j)(f:j<=a.size):up (a.extract i j).toList:=by
 unfold up;rw[List.pairwise_iff_getElem];intro p q hp c d;rw[de,yb]at hp c;have e:∀m (b:m<(a.extract i j).toList.length),ky (a.extract i j).toList[m]=K a (i+m):=λm b=>by
  rw[de,yb]at b;have:(a.extract i j)[m]?=a[i+m]?:=by rw[Array.getElem?_extract];rw[if_pos (by lia)]
  rw[Array.getElem_toList];refine(vv ?_).symm;rw[<-this,su]
 show ky _<=ky _;rw[e,e];exact h _ _ (fB _ _) (by lia) (by lia)
def rH{a:Array Keyed}(h:IntKeys a)(i j:Nat):IntKeys (a.extract i j):=λp hp=>h p (by
 rw[pC,List.extract_eq_drop_take]at hp;exact List.mem_of_mem_drop (DT hp))
def yR(h:y∈(a.extract i j).toList):∃m,i<=m/\m<j/\m<a.size/\K a m=ky y:=by
 rw[pC,List.extract_eq_drop_take]at h;obtain⟨m,b,e⟩:=DU.mp h;rw[iW,yn,de]at b;exact⟨i+m,(fB _ _),by lia,by lia,vv (by grind)⟩
def Up(a:Array Keyed):Prop:=up a.toList
def aeR(a:Array Keyed)(h1:i<=j)(c:j<=k):a.toList.Perm (a.toList.take i++((a.extract i j).toList++(a.extract j k).toList)++a.toList.drop k):=by
 have e1:(a.extract i j).toList++(a.extract j k).toList=(a.toList.drop i).take (k-i):=by
  rw[pC,pC,List.extract_eq_drop_take,List.extract_eq_drop_take,show k-i=(j-i)+(k-j) by lia,List.take_add,List.drop_drop,show i+(j-i)=j by lia]
 rw[e1];have b:a.toList.take i++(a.toList.drop i).take (k-i)++a.toList.drop k=a.toList:=by
  rw[<-List.take_add,show i+(k-i)=k by lia,xY]
 rw[b]
def LU(h:vi a 0 a.size):Up a:=by
 have:=tM h (au _)
 rwa [Array.extract_size]at this
def QG{x st:σ}(h:Q ⟨⟩ x):wpS M A E s (set x:StateT σ Sem PUnit) Q st:=by
 unfold wpS;rw[StateT.run_set];exact aj ⟨rfl,h⟩
def Bu(c:vi a base (base+n)):∀i j,i<=j->j<n->Bv left key a base j=true->Bv left key a base i=true:=λi j d e b=>by
 have:=c (base+i) (base+j) (fB _ _) (by lia) (by lia)
 unfold Bv at b ⊢;cases left with
 | true=>simp only[iZ,kK]at b ⊢;lia
 | false=>simp only[jF,fF,yh,DL]at b ⊢;lia
def LV(h:i+m<j)(c:j<=a.size):K (a.extract i j) m=K a (i+m):=by
 obtain⟨x,b,e⟩:=fK (arr:=a) (i:=i+m) (cb ‹_› ‹_›);rw[e];refine vv ?_;rw[Array.getElem?_extract,if_pos (by lia)]
 exact b
def LW(hz:b+t=a.size)(s1:vi a 0 b)(s2:vi a b (b+t))(hk:k<b)(N:j<=t)(Q:0<t)(R:K a b=D)(T:K a (b-1)=H)
  (I:∀i,i<k->K a i<=D) (J:∀i,j<=i->i<t->H<=K a (b+i)) (g:i8 le (a.extract k b).toList (a.extract b (b+j)).toList r) :
  (a.toList.take k++r++a.toList.drop (b+j)).Perm a.toList/\up (a.toList.take k++r++a.toList.drop (b+j)):=by
 refine⟨((g.1.append_left _).append_right _).trans (aeR a (d9 ‹_›) (fB _ _)).symm,?_⟩;have C:∀y∈r,(∃m,k<=m/\m<b/\K a m=ky y)\/∃m,b<=m/\m<b+j/\K a m=ky y:=λy e=>by
  rcases bI.mp (g.1.mem_iff.mp e)with e | e
  ·obtain⟨m,d,c,f,l⟩:=yR e;exact .inl ⟨m,d,c,l⟩
  ·obtain⟨m,d,c,f,l⟩:=yR e;exact .inr ⟨m,d,c,l⟩
 refine sx.mpr ⟨sx.mpr ⟨?_,g.2,λx h y e=>?_⟩,?_,λx h y e=>?_⟩
 ·rw[<-V6];exact tM (λp q d c f=>s1 p q d c (by lia)) (by lia)
 ·obtain⟨p,o,v,u,B⟩:=gK h;show ky x<=ky y;rw[<-B];rcases C y e with⟨m,d,c,f⟩ | ⟨m,d,c,f⟩
  ·rw[<-f];exact s1 p m (dn _) (by lia) c
  ·rw[<-f];have:=I p o;have:=s2 b m (au _) d (by lia)
   lia
 ·rw[<-kX];exact tM (λp q d c f=>s2 p q (by lia) c (by lia)) (au _)
 ·obtain⟨m,d,c,f,l⟩:=jm e;show ky x<=ky y;rw[<-l];have L:=J (m-b) (by lia) (by lia)
  rw[show b+(m-b)=m by lia]at L
  have M:∀p,p<b->K a p<=K a m:=λp hp=>by
   have:=s1 p (b-1) (dn _) (by lia) (by lia)
   lia
  rcases bI.mp h with h | h
  ·obtain⟨p,o,v,u,B⟩:=gK h;rw[<-B];exact M p (by lia)
  ·rcases C x h with⟨p,o,v,u⟩ | ⟨p,o,v,u⟩
   ·grind
   ·rw[<-u];exact s2 p m o (by lia) (by lia)
def EG(hk:kindOf st=oneType')(N:failedOf st=none)(f:IntKeys (arrOf st))(hp:pendingOf st=#[(0,b,D),(b,l,0)])(h1:0<b)(h2:0<l)(hz:b+l=(arrOf st).size)
  (s1:vi (arrOf st) 0 b) (s2:vi (arrOf st) b (b+l))
  (h:∀d,(arrOf d).toList.Perm (arrOf st).toList->Up (arrOf d)->failedOf d=none->pendingOf d=#[(0,b+l,D)]->Q true d):wpS (model prog w) A E s (mergeAt' 0) Q st:=by
 refine ak (fg ?_);have e0:(pendingOf st)[0]?=some (0,b,D):=by rw[hp];rfl
 have e1:(pendingOf st)[0+1]?=some (b,l,0):=by rw[hp];rfl
 rw[e0,e1];dsimp only
 have t:((pendingOf st).setIfInBounds 0 (0,b+l,D)).eraseIdxIfInBounds (0+1)=#[(0,b+l,D)]:=by
  rw[hp];simp[Array.eraseIdxIfInBounds]
 have all:∀{c:Int},K (arrOf st) b=c->(∀i,i<b->K (arrOf st) i<=c)->Up (arrOf st):=λ{c} ec hc=>LU λp q u v R=>by
  by_cases hq:q<b
  ·exact s1 p q u v hq
  ·by_cases hp:b<=p
   ·exact s2 p q hp v (by lia)
   ·have Y:=hc p (D5 ‹_›);have f2:=s2 b q (au _) (pF ‹_›) (by lia)
    lia
 refine ak (QG ?_);obtain⟨c0,H,o⟩:=fK (arr:=arrOf st) (i:=b) (by lia)
 refine ak (cq H ?_);refine ak (m:=jO false c0 (arrOf st) 0 b 0) (ie hk f (f9 f H) (by lia) h1 (Bu (by rw[d8];exact s1)) λk k1 k2 k3=>?_)
 have I:∀i,i<k->K (arrOf st) i<=ky c0:=λi f=>by
  have:=IU.1.mp (k2 i f)
  rwa [d8]at this
 dsimp only
 by_cases hn:b-k=0
 ·rw[if_pos (bu.mpr hn)];exact aA (h _ (List.Perm.refl _) (all o λi f=>I i (by lia)) N t)
 rw[if_neg (λz=>hn (bu.mp z))]
 obtain⟨Z,J,B⟩:=fK (arr:=arrOf st) (i:=0+k+(b-k)-1) (by lia)
 refine ak (cq J ?_);rw[show 0+k+(b-k)-1=b-1 by lia]at B
 refine ak (m:=jO true Z (arrOf st) b l (l-1)) (ie hk f (f9 f J) (gW ‹_›) (by lia) (Bu s2) λj j1 j2 j3=>?_)
 have L:∀i,j<=i->i<l->ky Z<=K (arrOf st) (b+i):=λi u v=>IT.2.mp (j3 i u v)
 have j2':∀i,i<j->K (arrOf st) (b+i)<ky Z:=λi u=>IT.1.mp (j2 i u)
 dsimp only
 by_cases hj:j=0
 ·rw[if_pos (bu.mpr hj)];have f0:=L 0 (gW ‹_›) h2;refine aA (h _ (List.Perm.refl _) (all o λi f=>?_) N t)
  have Y:=s1 i (b-1) (dn _) (by lia) (by lia)
  rw[sU]at f0;rw[o]at f0;rw[B]at Y;exact dm Y f0
 rw[if_neg (λz=>hj (bu.mp z))]
 rw[d8];have M:=IU.2.mp (k3 k (au _) (by lia))
 rw[d8]at M;have first:K ((arrOf st).extract b (b+j)) 0<=K ((arrOf st).extract k b) 0:=by
  rw[LV (by lia) (by lia),LV (by lia) (by lia),sU,sU,o]
  exact kQ M
 have T:((arrOf st).extract k b).size=b-k:=by rw[yb];lia
 have zy:((arrOf st).extract b (b+j)).size=j:=by rw[yb];lia
 have gq:∀y∈((arrOf st).extract b (b+j)).toList,ky y<=K ((arrOf st).extract k b) (((arrOf st).extract k b).size-1):=λy hy=>by
  obtain⟨m,u,v,R,q4⟩:=yR hy;rw[T,LV (by lia) (by lia),show k+(b-k-1)=b-1 by lia,B,<-q4]
  have:=j2' (m-b) (by lia)
  rw[show b+(m-b)=m by lia]at this
  exact kQ this
 have ux:up ((arrOf st).extract k b).toList:=tM (λp q u v R=>s1 p q (dn _) v R) (by lia)
 have uy:up ((arrOf st).extract b (b+j)).toList:=tM (λp q u v R=>s2 p q u v (by lia)) (by lia)
 have fin:∀(r:Array Keyed) (d:SortSt),arrOf d=arrOf st->failedOf d=none->pendingOf d=#[(0,b+l,D)]->i8 le ((arrOf st).extract k b).toList ((arrOf st).extract b (b+j)).toList r.toList ->
   Q (failedOf d).isNone (SortSt.mk' (kindOf d) (r.toList.zipIdx.foldl (λa (x:Keyed×Nat)=>match x with | (p,i)=>a.setIfInBounds (k+i) p) (arrOf d)) (pendingOf d) (gallopOf d) (failedOf d)):=λr d X a2 a3 g=>by
  have hl:r.toList.length=b-k+j:=by rw[g.1.length_eq,aX,de,de,T,zy]
  obtain⟨w1,w2⟩:=LW hz s1 s2 (by lia) j1 h2 o B I L g
  have e:=GN k r.toList 0 (arrOf d) (by rw[X,hl];lia)
  rw[X,hl,show k+0+(b-k+j)=b+j by lia,sU]at e
  rw[<-e]at w1 w2;have a4:(failedOf d).isNone=true:=by rw[a2];rfl
  rw[a4];refine h _ ?_ ?_ a2 a3
  ·show(List.foldl _ (arrOf d) _).toList.Perm _;rw[X];exact w1
  ·show up (List.foldl _ (arrOf d) _).toList;rw[X];exact w2
 by_cases hc:b-k<=j
 ·rw[if_pos hc];refine ak (m:=Bn ((arrOf st).extract k b) ((arrOf st).extract b (b+j))) (EE hk (rH f _ _) (rH f _ _) ux uy (by rw[T];lia) (by rw[zy];lia) first gq λr d C g=>?_)
  refine ak (gA ?_);refine ak (fg ?_);exact aA (fin r d C.2.1 (C.2.2.2.trans N) (C.2.2.1.trans t) g)
 ·rw[if_neg hc];refine ak (m:=Bt ((arrOf st).extract k b) ((arrOf st).extract b (b+j))) (EF hk (rH f _ _) (rH f _ _) ux uy (by rw[T];lia) (by rw[zy];lia) first gq λr d C g=>?_)
  refine ak (gA ?_);refine ak (fg ?_);exact aA (fin r d C.2.1 (C.2.2.2.trans N) (C.2.2.1.trans t) g)
end
structure RB (a:Array Keyed) (lo:Nat) (pd:Array (Nat×Nat×Nat)) (st:SortSt):Prop where
 perm:(arrOf st).Perm a
 kind:kindOf st=oneType'
 failed:failedOf st=none
 pend:pendingOf st=pd
 low:∀i,i<lo->K (arrOf st) i=K a i
section
variable {prog:Program} {w:World} {A:Around} {E:Value->Shared->Prop} {s:Shared} {st:SortSt} {a:Array Keyed} {lo:Nat} {pd:Array (Nat×Nat×Nat)}
def RB.size(h:RB a lo pd st):(arrOf st).size=a.size:=h.perm.size_eq
def RB.ints(h:RB a lo pd st)(b:IntKeys a):IntKeys (arrOf st):=λp hp=>b p ((sk.mp h.perm).mem_iff.mp hp)
def RB.set(h:RB a lo pd st)(hp:xs.Perm (arrOf st))(c:∀i,i<lo->K xs i=K (arrOf st) i):RB a lo pd (setArr st xs):=⟨hp.trans h.perm,h.kind,h.failed,h.pend,λi b=>(c i b).trans (h.low i b)⟩
def RB.lt(h:RB a lo pd st)(b:IntKeys a)(f:i<a.size)(g:j<a.size) (c:Q (some (decide (K (arrOf st) i<K (arrOf st) j))) st):wpS (model prog w) A E s (ltAt' i j) Q st:=by
 obtain⟨x,d,ex⟩:=fK (by rw[h.size];exact f)
 obtain⟨y,e,k⟩:=fK (by rw[h.size];exact g)
 rw[ltAt'_eq];refine ak (fg ?_);refine ak (cq d ?_);refine ak (cq e ?_);rw[ex,k]at c;exact Bm h.kind (f9 (h.ints b) d) (f9 (h.ints b) e) c
def qB(l:IntKeys a)(j:RB a lo pd st)(hz:lo+f<=a.size)(h1:1<=f)(hd:∀p q,lo<=p->p<q->q<lo+f->K (arrOf st) p≠K (arrOf st) q)
  (h:∀m b,RB a lo pd b->1<=m->m<=f->vi (arrOf b) lo (lo+m)->Q (some m) b):wpS (model prog w) A E s (countRun' lo f) Q st:=by
 refine ak (ej (ei
  (I:=λx c b=>b=st/\c=(none,x)/\vi (arrOf st) lo (lo+x))
  (Q:=λc b=>b=st/\∃n,c=(none,n)/\1<=n/\n<=f/\vi (arrOf st) lo (lo+n)/\(n<f->K (arrOf st) (lo+n)<K (arrOf st) (lo+n-1))) ?step ?fin ⟨rfl,rfl,λp q g k o=>by grind⟩) ?post)
 case fin =>
  rintro c b ⟨rfl,rfl,z⟩
  rw[D9 h1]at z ⊢;exact⟨rfl,f,rfl,h1,au _,z,λq=>absurd q (gU _)⟩
 case step =>
  rintro x c b y L ⟨rfl,rfl,z⟩
  refine ak (j.lt l (by lia) (by lia) ?_)
  (try dsimp only)
  by_cases hw:K (arrOf b) (lo+x)<K (arrOf b) (lo+x-1)
  ·rw[if_pos (dE hw)];exact aA ⟨rfl,x,rfl,y,(d9 ‹_›),z,λ_=>hw⟩
  ·rw[if_neg (λq=>hw (dw q))]
   refine aA ⟨rfl,rfl,λp q g k o=>?_⟩
   by_cases e:q<lo+x
   ·exact z p q g k e
   ·have B:q=lo+x:=by lia
    subst B;by_cases M:p=lo+x
    ·grind
    ·have:=z p (lo+x-1) g (by lia) (by lia)
     lia
 case post =>
  rintro c b ⟨rfl,n,rfl,r,t,z,N⟩
  (try dsimp only)
  by_cases e:n=f
  ·rw[if_pos (bu.mpr e)];exact aA (h n b j r t z)
  rw[if_neg (λq=>e (bu.mp q))]
  by_cases R:n>1
  ·rw[if_pos R];refine ak (j.lt l (by lia) (by lia) ?_)
   (try dsimp only)
   have hw:K (arrOf b) lo<K (arrOf b) (lo+n-1):=by
    have Z:=z lo (lo+n-1) (au _) (by lia) (by lia)
    have f2:=hd lo (lo+n-1) (au _) (by lia) (by lia)
    lia
   rw[if_pos (dE hw)];exact aA (h n b j r t z)
  rw[if_neg R];have C:n=1:=by lia
  subst C;have N:=N (by lia)
  refine ak (kT (gz ⟨rfl,?_⟩));have D:∀p q,lo<=p->p<=q->q<lo+(1+1)->K (arrOf b) q<=K (arrOf b) p:=λp q g k o=>by
   grind
  refine ak (ej (ei
   (I:=λx c d=>d=b/\c=(none,x,0)/\∀p q,lo<=p->p<=q->q<lo+x->K (arrOf b) q<=K (arrOf b) p)
   (Q:=λc d=>d=b/\∃n,c=(none,n,0)/\2<=n/\n<=f/\∀p q,lo<=p->p<=q->q<lo+n->K (arrOf b) q<=K (arrOf b) p) ?Br ?LR ⟨rfl,rfl,D⟩) ?Bs)
  case LR =>
   rintro c d ⟨rfl,rfl,z⟩
   rw[D9 (by lia)]at z ⊢
   exact⟨rfl,f,rfl,by lia,au _,z⟩
  case Br =>
   rintro x c d y L ⟨rfl,rfl,z⟩
   refine ak (m:=ltAt' (lo+x) (lo+x-1)) (j.lt l (by lia) (by lia) ?_)
   (try dsimp only)
   by_cases hw:K (arrOf d) (lo+x)<K (arrOf d) (lo+x-1)
   ·rw[if_pos (dE hw),if_neg (by lia)]
    refine aA ⟨rfl,rfl,λp q g k o=>?_⟩
    by_cases e:q<lo+x
    ·grind
    ·grind
   ·rw[if_neg (λq=>hw (dw q))]
    refine ak (j.lt l (by lia) (by lia) ?_)
    (try dsimp only)
    have T:K (arrOf d) (lo+x-1)<K (arrOf d) (lo+x):=by
     grind
    rw[if_pos (dE T)];exact aA ⟨rfl,x,rfl,by lia,(d9 ‹_›),z⟩
  case Bs =>
   rintro c d ⟨rfl,n,rfl,m1,X,Y⟩
   (try dsimp only)
   rw[if_neg (by lia)]
   refine ak (wpS_reverse ?_);have H:lo+n<=(arrOf d).size:=by rw[j.size];lia
   have u:=j.set (mirror_perm (arrOf d) lo (lo+n) ((lo+n-lo)/2)) λi hi=>by rw[K_mirror H,if_neg (by lia)]
   have J:vi (arrOf (setArr d (mirror (arrOf d) lo (lo+n) ((lo+n-lo)/2)))) lo (lo+n):=λp q g k o=>by
    rw[K_mirror H,K_mirror H,if_pos (by lia),if_pos (by lia)]
    exact Y _ _ (by lia) (by lia) (by lia)
   revert u J
   generalize setArr d (mirror (arrOf d) lo (lo+n) ((lo+n-lo)/2))=v
   intro u J;refine ak (ej (ei
    (I:=λx c b=>b=v/\c=(none,x)/\vi (arrOf v) lo (lo+x))
    (Q:=λc b=>b=v/\∃n,c=(none,n)/\1<=n/\n<=f/\vi (arrOf v) lo (lo+n)) ?aai ?aeS ⟨rfl,rfl,J⟩) ?aaj)
   case aeS =>
    rintro c b ⟨rfl,rfl,z⟩
    rw[D9 X]at z ⊢;exact⟨rfl,f,rfl,h1,au _,z⟩
   case aaj =>
    rintro c b ⟨rfl,n,rfl,r,t,z⟩
    exact aA (h n b u r t z)
   case aai =>
    rintro x c b y L ⟨rfl,rfl,z⟩
    refine ak (u.lt l (by lia) (by lia) ?_)
    (try dsimp only)
    by_cases hw:K (arrOf b) (lo+x)<K (arrOf b) (lo+x-1)
    ·rw[if_pos (dE hw)];exact aA ⟨rfl,x,rfl,by lia,(d9 ‹_›),z⟩
    ·rw[if_neg (λq=>hw (dw q))]
     refine aA ⟨rfl,rfl,λp q g k o=>?_⟩
     by_cases e:q<lo+x
     ·exact z p q g k e
     ·have B:q=lo+x:=by lia
      subst B;by_cases M:p=lo+x
      ·rw[M];exact pQ _
      ·have:=z p (lo+x-1) g (by lia) (by lia)
       lia
def l8(B:IntKeys a)(e:RB a lo pd st)(hz:lo+n<=a.size)(h1:1<=ok)(X:ok<=n)(C:vi (arrOf st) lo (lo+ok))
  (h:∀d,RB a lo pd d->vi (arrOf d) lo (lo+n)->Q true d):wpS (model prog w) A E s (binarySort' lo n ok) Q st:=by
 refine ak (ej (ei
  (I:=λk c d=>c=(none,())/\RB a lo pd d/\vi (arrOf d) lo (lo+k))
  (Q:=λc d=>c=(none,())/\RB a lo pd d/\vi (arrOf d) lo (lo+n)) ?step ?fin ⟨rfl,e,by rw[Nat.max_eq_left h1];exact C⟩) ?post)
 case fin =>
  rintro c d ⟨rfl,e,z⟩
  rw[show max (max ok 1) n=n by lia]at z
  exact⟨rfl,e,z⟩
 case post =>
  rintro c d ⟨rfl,e,z⟩
  exact aA (h d e z)
 case step =>
  rintro k c d D hk ⟨rfl,e,z⟩
  (try dsimp only)
  refine ak (ej (ei
   (I:=λx c b=>b=d/\∃l r,c=(none,l,r)/\l<=r/\r<=k/\r-l<=k-x/\(∀i,i<l->K (arrOf d) (lo+i)<=K (arrOf d) (lo+k))/\(∀i,r<=i->i<k->K (arrOf d) (lo+k)<=K (arrOf d) (lo+i)))
   (Q:=λc b=>b=d/\∃l,c=(none,l,l)/\l<=k/\(∀i,i<l->K (arrOf d) (lo+i)<=K (arrOf d) (lo+k))/\(∀i,l<=i->i<k->K (arrOf d) (lo+k)<=K (arrOf d) (lo+i))) ?Bp ?LQ ⟨rfl,0,k,rfl,(dn _),(au _),(au _),(λi q=>by lia),λi o v=>by lia⟩) ?Bq)
  case LQ =>
   rintro c b ⟨rfl,l,r,rfl,H,t,J,g,m⟩
   have:l=r:=by lia
   subst this;exact⟨rfl,l,rfl,t,g,m⟩
  case Bp =>
   rintro x c b _ Y ⟨rfl,l,r,rfl,H,t,J,g,m⟩
   (try dsimp only)
   by_cases y:l>=r
   ·rw[if_pos y];have:l=r:=by lia
    subst this;exact aA ⟨rfl,l,rfl,t,g,m⟩
   rw[if_neg y];refine ak (e.lt B (by lia) (by lia) ?_)
   (try dsimp only)
   by_cases hw:K (arrOf b) (lo+k)<K (arrOf b) (lo+(l+r)/2)
   ·rw[if_pos (dE hw)];refine aA ⟨rfl,_,_,rfl,by lia,by lia,by lia,g,λi o v=>?_⟩
    have:=z (lo+(l+r)/2) (lo+i) (fB _ _) (by lia) (by lia)
    lia
   ·rw[if_neg (λq=>hw (dw q))]
    refine aA ⟨rfl,_,_,rfl,by lia,by lia,by lia,λi o=>?_,m⟩
    have:=z (lo+i) (lo+(l+r)/2) (fB _ _) (by lia) (by lia)
    lia
  case Bq =>
   rintro c b ⟨rfl,l,rfl,Z,L,M⟩
   (try dsimp only)
   have f:lo+k<(arrOf b).size:=by rw[e.size];lia
   refine ak (gA ?_);refine aA ⟨rfl,e.set (bubble_perm _ _ _) (λi hi=>by
    show K (bubble (arrOf b) (lo+k) (lo+k-(lo+l))) i=_;rw[K_bubble f (by lia),if_neg (by lia),if_neg (by lia)]),λp q o v q3=>?_⟩
   show K (bubble (arrOf b) (lo+k) (lo+k-(lo+l))) p<=K (bubble (arrOf b) (lo+k) (lo+k-(lo+l))) q;rw[K_bubble f (by lia),K_bubble f (by lia)]
   have u:∀i j,i<=j->j<k->K (arrOf b) (lo+i)<=K (arrOf b) (lo+j):=λi j e1 e2=>z _ _ (fB _ _) (by lia) (by lia)
   obtain⟨i,rfl⟩:∃i,p=lo+i:=⟨p-lo,by lia⟩
   obtain⟨j,rfl⟩:∃j,q=lo+j:=⟨q-lo,by lia⟩
   by_cases N:i<l
   ·rw[if_neg (by lia),if_neg (by lia)]
    by_cases R:j<l
    ·rw[if_neg (by lia),if_neg (by lia)];exact u i j (by lia) (by lia)
    ·by_cases T:j=l
     ·rw[if_pos (by lia)];exact L i N
     ·rw[if_neg (by lia),if_pos (by lia),show lo+j-1=lo+(j-1) by lia];exact u i (j-1) (by lia) (by lia)
   ·by_cases R:i=l
    ·rw[if_pos (by lia)]
     by_cases T:j=l
     ·rw[if_pos (by lia)];exact pQ _
     ·rw[if_neg (by lia),if_pos (by lia),show lo+j-1=lo+(j-1) by lia];exact M (j-1) (by lia) (by lia)
    ·rw[if_neg (by lia),if_pos (by lia),if_neg (by lia),if_pos (by lia),show lo+i-1=lo+(i-1) by lia,show lo+j-1=lo+(j-1) by lia]
     exact u (i-1) (j-1) (by lia) (by lia)
end
section
variable {prog:Program} {w:World} {A:Around} {E:Value->Shared->Prop} {s:Shared} {st:SortSt} {a:Array Keyed}
def TF(a:Array Keyed):Prop:=(a.toList.map ky).Nodup
def TF.ne(h:TF a)(h1:p<q)(b:q<a.size):K a p≠K a q:=by
 obtain⟨x,c,ex⟩:=fK (arr:=a) (i:=p) (by lia)
 obtain⟨y,d,f⟩:=fK b;intro e;rw[ex,f]at e;have g:∀{i:Nat} {x:Keyed},a[i]?=some x->(a.toList.map ky)[i]?=some (ky x):=λ{i x} h=>by rw[bP,mG,h];rfl
 have:=(DZ (by rw[ao,de];lia) h).mp ((g c).trans ((dq some e).trans (g d).symm))
 lia
def TF.perm(h:TF a)(p:b.Perm a):TF b:=((sk.mp p).map ky).nodup_iff.mpr h
def IV(h1:64<=n)(c:n<128):minRun' n n 0=n/2+n%2:=by
 obtain⟨f,b⟩:∃f,n=f+2:=⟨n-2,by lia⟩
 have e:∀m,minRun' (f+2) m 0=if m<64 then m+0 else(if m/2<64 then m/2+max 0 (m%2)else minRun' f (m/2/2) (max (max 0 (m%2)) (m/2%2))):=λm=>rfl
 have:=e n;rw[if_neg (by lia),if_pos (by lia)]at this
 rw[<-b]at this;rw[this]
 lia
def Two(a:Array Keyed)(st:SortSt):Prop:=∃b c,0<b/\b<a.size/\RB a 0 #[(0,b,c),(b,a.size-b,0)] st/\vi (arrOf st) 0 b/\vi (arrOf st) b a.size
def One(a:Array Keyed)(st:SortSt):Prop:=(arrOf st).toList.Perm a.toList/\failedOf st=none/\Up (arrOf st)/\(pendingOf st).size=1
def Bw(H:IntKeys a)(g:RB a 0 #[] st)(z1:64<=a.size)(z2:a.size<128)(hd:TF a)(h:∀d,One a d->Q () d):wpS (model prog w) A E s sortRuns' Q st:=by
 refine ak (fg ?_)
 (try dsimp only)
 have J:=g.size;have L:=IV z1 z2;rw[J];rw[show(sortPriv% PySem.Builtin.minRun) a.size a.size 0=a.size/2+a.size%2 from L]
 generalize hr:a.size/2+a.size%2=l
 refine ak (ej (ei
  (I:=λx c d=>(x=0/\c=(none,0)/\RB a 0 #[] d)\/(x=1/\∃b,c=(none,b)/\0<b/\b<=a.size/\l<=b/\RB a 0 #[(0,b,0)] d/\vi (arrOf d) 0 b)\/(2<=x/\c=(none,a.size)/\Two a d))
  (Q:=λc d=>c.1=none/\(One a d\/Two a d)) ?step ?fin (.inl ⟨rfl,rfl,g⟩)) ?post)
 case fin =>
  rintro c d (⟨q,_⟩ | ⟨q,_⟩ | ⟨_,rfl,t⟩)
  ·lia
  ·lia
  ·exact⟨rfl,.inr t⟩
 case post =>
  rintro c d ⟨e,hc⟩
  (try dsimp only)
  rw[e]
  (try dsimp only)
  refine ak (ej (ei
   (I:=λx c d=>c=(none,())/\(One a d\/x=0/\Two a d))
   (Q:=λc d=>c=(none,())/\One a d) ?aak ?aeV ⟨rfl,hc.imp id λt=>⟨rfl,t⟩⟩) ?aal)
  case aeV =>
   rintro c d ⟨rfl,o | ⟨q,_⟩⟩
   ·exact⟨rfl,o⟩
   ·lia
  case aal =>
   rintro c d ⟨rfl,o⟩
   exact aA (h d o)
  case aak =>
   rintro x c d _ _ ⟨rfl,o | ⟨q,b,pw,t1,t2,t3,t4,t5⟩⟩
   ·refine ak (fg ?_)
    (try dsimp only)
    rw[if_pos (by rw[o.2.2.2];exact au _)]
    exact aA ⟨rfl,o⟩
   ·refine ak (fg ?_)
    (try dsimp only)
    have e2:(pendingOf d).size=2:=by rw[t3.pend];rfl
    rw[e2,if_neg (by lia)]
    refine ak (EG t3.kind t3.failed (t3.ints H) t3.pend t1 (by lia) (by rw[t3.size];lia) t4 (by rw[show b+(a.size-b)=a.size by lia];exact t5) λj p1 p2 p3 p4=>?_)
    exact aA ⟨rfl,.inl ⟨p1.trans (sk.mp t3.perm),p3,p2,by rw[p4];rfl⟩⟩
 case step =>
  rintro x c d _ hx (⟨rfl,rfl,g⟩ | ⟨rfl,b,rfl,Y,n2,n3,g,M⟩ | ⟨Za,rfl,t⟩)
  ·(try dsimp only)
   rw[if_neg (by lia)]
   refine ak (qB H g (by lia) (iV ‹_› ‹_›) (λp q _ r B=>(hd.perm g.perm).ne r (by rw[g.size];lia)) λm j i N m2 C=>?_)
   (try dsimp only)
   by_cases D:m<l
   ·rw[if_pos D];refine ak (kT (gz ⟨rfl,?_⟩));refine ak (l8 H i (by lia) N (by lia) C λv k u=>?_)
    rw[if_neg (by simp)]
    refine ak (fg ?_);rw[show(pendingOf v).back?=none by rw[k.pend];rfl]
    (try dsimp only)
    refine ak (gA ?_);refine aA (.inr (.inl ⟨rfl,_,rfl,by lia,by lia,by lia,⟨k.perm,k.kind,k.failed,?_,k.low⟩,?_⟩))
    ·show(pendingOf v).push _=_;rw[k.pend];show #[(0,min (a.size-0) l,0)]=_;rw[d8]
    ·exact u
   ·rw[if_neg D];refine ak (fg ?_);rw[show(pendingOf j).back?=none by rw[i.pend];rfl]
    (try dsimp only)
    refine ak (gA ?_);refine aA (.inr (.inl ⟨rfl,_,rfl,(Nat.le_add_left_of_le ‹_›),by lia,by lia,⟨i.perm,i.kind,i.failed,?_,i.low⟩,?_⟩))
    ·show(pendingOf j).push _=_;rw[i.pend];show #[(0,m,0)]=_;rw[d8]
    ·exact C
  ·(try dsimp only)
   by_cases Z:b>=a.size
   ·rw[if_pos Z];have e:b=a.size:=by lia
    refine aA ⟨rfl,.inl ⟨sk.mp g.perm,g.failed,LU ?_,by rw[g.pend];rfl⟩⟩
    rw[g.size,<-e];exact M
   rw[if_neg Z];have R:RB (arrOf d) b #[(0,b,0)] d:=⟨Array.Perm.refl _,g.kind,g.failed,g.pend,λ_ _=>rfl⟩
   have hI:IntKeys (arrOf d):=g.ints H;have hS:=g.size;refine ak (m:=countRun' b (a.size-b)) (qB hI R (by lia) (by lia) (λp q _ r B=>(hd.perm g.perm).ne r (by lia)) λm j i N m2 C=>?_)
   (try dsimp only)
   have em:min (a.size-b) l=a.size-b:=by lia
   by_cases D:m<l
   ·rw[if_pos D];refine ak (kT (gz ⟨rfl,?_⟩));refine ak (m:=binarySort' b (min (a.size-b) l) m) (l8 hI i (by lia) N (by lia) C λv k u=>?_)
    rw[if_neg (by simp)]
    have eN:b+min (a.size-b) l=a.size:=by lia
    refine ak (fg ?_);rw[show(pendingOf v).back?=some (0,b,0) by rw[k.pend];rfl]
    (try dsimp only)
    refine ak (ej (ei (I:=λ_ c f=>f=v/\c=(none,())) (Q:=λc f=>f=v/\c=(none,())) ?_ (λ_ _ T=>T) ⟨rfl,rfl⟩) ?_)
    ·rintro y c f _ _ ⟨rfl,rfl⟩
     refine ak (fg ?_)
     (try dsimp only)
     rw[show(pendingOf f).size=1 by rw[k.pend];rfl,if_neg (by lia)]
     exact aA ⟨rfl,rfl⟩
    ·rintro c f ⟨rfl,rfl⟩
     (try dsimp only)
     refine ak (gA ?_);refine ak (gA ?_);refine aA (.inr (.inr ⟨au _,by rw[eN],b,power' a.size (2*0+b) (2*0+b+b+min (a.size-b) l) a.size,Y,(D5 ‹_›),⟨k.perm.trans g.perm,k.kind,k.failed,?_,λ_ z=>absurd z (Ec _)⟩,λp q X r B=>?_,?_⟩))
     ·show((pendingOf f).modify ((pendingOf f).size-1) _).push _=_;rw[k.pend,em];rfl
     ·show K (arrOf f) p<=K (arrOf f) q;rw[k.low p (iV ‹_› ‹_›),k.low q (‹_›)];exact M p q X r B
     ·show vi (arrOf f) b a.size;have:=u
      rwa [eN]at this
   ·rw[if_neg D];have eM:m=a.size-b:=by lia
    have eN:b+m=a.size:=by lia
    refine ak (fg ?_);rw[show(pendingOf j).back?=some (0,b,0) by rw[i.pend];rfl]
    (try dsimp only)
    refine ak (ej (ei (I:=λ_ c f=>f=j/\c=(none,())) (Q:=λc f=>f=j/\c=(none,())) ?_ (λ_ _ T=>T) ⟨rfl,rfl⟩) ?_)
    ·rintro y c f _ _ ⟨rfl,rfl⟩
     refine ak (fg ?_)
     (try dsimp only)
     rw[show(pendingOf f).size=1 by rw[i.pend];rfl,if_neg (by lia)]
     exact aA ⟨rfl,rfl⟩
    ·rintro c f ⟨rfl,rfl⟩
     (try dsimp only)
     refine ak (gA ?_);refine ak (gA ?_);refine aA (.inr (.inr ⟨au _,by rw[eN],b,power' a.size (2*0+b) (2*0+b+b+m) a.size,Y,(D5 ‹_›),⟨i.perm.trans g.perm,i.kind,i.failed,?_,λ_ z=>absurd z (Ec _)⟩,λp q X r B=>?_,?_⟩))
     ·show((pendingOf f).modify ((pendingOf f).size-1) _).push _=_;rw[i.pend,eM];rfl
     ·show K (arrOf f) p<=K (arrOf f) q;rw[i.low p (iV ‹_› ‹_›),i.low q (‹_›)];exact M p q X r B
     ·show vi (arrOf f) b a.size;have:=C
      rwa [eN]at this
  ·(try dsimp only)
   rw[if_pos (au _)];exact aA ⟨rfl,.inr t⟩
end
section
variable {prog:Program} {w:World} {A:Around} {E:Value->Shared->Prop} {s:Shared}
def V7(a:IntsAre vs ns)(b:ns.Nodup):TF (pairsOf vs):=by
 unfold TF;rw[pairsOf_toList];have:(vs.zip vs).map ky=((vs.zip vs).map Prod.fst).map numOf:=by simp_all
 rw[this,List.map_fst_zip (au _),a.nums];exact b
def LX(ho:s.heap.get? a=some (seqObj "list" vs.toArray n))(f:IntsAre vs ns)(x:ns.Nodup)(g:64<=vs.length)(y:vs.length<128)
  (h:∀(out:Array Value) (c:List Int),IntsAre out.toList c->c.Perm ns->c.Pairwise (· <= ·)->P (.done (.ret .none)) {s with heap:=sortedHeap s.heap a vs out}) :
  wpAny (model prog w) A (Builtin.«list.sort» ⟨[.ref a],[]⟩) P E s:=by
 rw[list_sort_plain];have q:=bf ho;refine ag (listItems_at ho rfl ?_);refine ag (listUpdate_at ho rfl ?_);obtain⟨e1,t⟩:∃e1,(s.heap.update a (Obj.mapSeq λ_=>#[])).get? a=some (seqObj "list" #[] e1):=⟨_,get?_update_seq ho (λ_=>#[])⟩
 refine ag (seqEpoch_at t rfl ?_);refine ag (wpAny_newTuple ?_);refine ag (wpAny_newList ?_);refine dZ ?_;have d:(((s.heap.update a (Obj.mapSeq λ_=>#[])).push (seqObj "tuple" vs.toArray 0)).push (seqObj "list" #[] 0)).get? a=some (seqObj "list" #[] e1):=by
  rw[Heap.get?_push_ne _ _ _ (by rw[size_push',Heap.size_update];exact bK (yj q)),Heap.get?_push_ne _ _ _ (by rw[Heap.size_update];exact bK q)]
  exact t
 show wpAny (model prog w) A _ P E {s with heap:=((s.heap.update a (Obj.mapSeq λ_=>#[])).push (seqObj "tuple" vs.toArray 0)).push (seqObj "list" #[] 0)}
 dsimp only
 have B:vs.toArray.size=vs.length:=by simp
 rw[if_neg (by lia),if_neg (by lia)]
 obtain⟨k,l,b,rfl⟩:∃k l b,vs=k::l::b:=by
  cases vs with
  | nil=>simp at g
  | cons v r=>cases r with
   | nil=>simp at g
   | cons u r=>exact⟨v,u,r,rfl⟩
 rw[keyKind_ints f];refine ag (aj ?_);refine ag (jH (Bw
  (Q:=λ_ m=>One (pairsOf (k::l::b)) m) f.intKeys ⟨Array.Perm.refl _,rfl,rfl,rfl,λ_ _=>rfl⟩ (by rw[pairsOf_size];exact g) (by rw[pairsOf_size];exact y) (V7 f x) λm o=>o) ?_ λ_ _ e=>e)
 rintro⟨⟨⟩,m⟩ M ⟨rfl,hp,hf,C,_⟩
 have p:=sk.mpr hp;dsimp only
 refine ag (seqEpoch_at d rfl ?_);refine ag (listUpdate_at d rfl ?_ (hsz2:=by refine bA (gW ((Array.size_map ..).trans (p.size_eq.trans (pairsOf_size _)))) ?_;rw[yz];lia))
 rw[hf];simp only[bne_self_eq_false,jF,fF];obtain⟨c,D,H,I⟩:=sorted_out f p λi j J L=>qX C J (by rw[p.size_eq];exact L)
 exact aj (h _ c D H I)
def EJ(d:s.heap.IsList l vs.toArray)(e:IntsAre vs ns)(g:ns.Nodup)(hz:vs.length<128)
  (h:∀(out:Array Value) (a:List Int),IntsAre out.toList a->a.Perm ns->a.Pairwise (· <= ·)->Q (.ref (s.heap.objs.size+1)) {s with heap:=sortedAll s.heap vs out}) :
  wpAny (model prog w) A (call (.builtin "sorted") [.ref l]) Q E s:=by
 by_cases c:vs.length<64
 ·exact sorted_ints d e c h
 refine DH kind_sorted plain_sorted entry_sorted (args_sorted1 _) ?_;unfold Builtin.«sorted»;refine ag (aj ?_);refine ag (collect_list d ?_);refine ag (wpAny_newList ?_);have b:((s.heap.push (seqObj "list" #[] 0)).update s.heap.objs.size (Obj.mapSeq (· ++ vs.toArray))).objs.size=s.heap.objs.size+1:=by
  simp_all
 have f:(((s.heap.push (seqObj "list" #[] 0)).update s.heap.objs.size (Obj.mapSeq (· ++ vs.toArray))).push (seqObj "list" vs.toArray 0)).get? (s.heap.objs.size+1)=some (seqObj "list" vs.toArray 0):=by
  rw[<-b];exact cx _ rfl
 show wpAny _ _ _ _ _ {s with heap:=((s.heap.push (seqObj "list" #[] 0)).update s.heap.objs.size (Obj.mapSeq (· ++ vs.toArray))).push (seqObj "list" vs.toArray 0)}
 rw[b];refine ag (dZ (fX slot_list_sort ⟨_,f,rfl⟩ entry_list_sort (LX f e g (pF ‹_›) hz λout a i j k=>⟨_,rfl,?_⟩) (args_list_sort _)))
 exact aj ⟨_,rfl,h out a i j k⟩
def EK(b:s.heap.IsList l vs.toArray)(c:IntsAre vs ns)(hz:vs.length<64\/vs.length<128/\ns.Nodup)
  (h:∀(out:Array Value) (a:List Int),IntsAre out.toList a->a.Perm ns->a.Pairwise (· <= ·)->Q (.ref (s.heap.objs.size+1)) {s with heap:=sortedAll s.heap vs out}) :
  wpAny (model prog w) A (call (.builtin "sorted") [.ref l]) Q E s:=by
 rcases hz with hz | ⟨hz,d⟩
 ·exact sorted_ints b c hz h
 ·exact EJ b c d hz h
end
end OY
namespace L2
open PySem PySem.Spec PyProof.Rows
section
variable {κ:Type} [DecidableEq κ]
noncomputable def kj(kvs:List (κ×V))(k:κ):Option V:=(kvs.find? λa=>decide (a.1=k)).map (·.2)
noncomputable def putK(kvs:List (κ×V))(k:κ)(v:V):List (κ×V) :=
 if(kvs.any λa=>decide (a.1=k))=true then kvs.map (λa=>if a.1=k then(a.1,v)else a)else kvs++[(k,v)]
def nU{p:κ×V}{r:List (κ×V)}{k:κ}(e:p.1=k):kj (p::r) k=some p.2:=by simp[kj,sP,e]
def nV{p:κ×V}{r:List (κ×V)}{k:κ}(e:¬p.1=k):kj (p::r) k=kj r k:=by simp[kj,sP,e]
theorem tO(k:κ):∀kvs:List (κ×V),(kvs.any λa=>decide (a.1=k))=(kj kvs k).isSome
 | []=>rfl
 | p::r=>by
  rw[jG];by_cases e:p.1=k
  ·simp only[nU e,dE e,Bool.true_or,Option.isSome_some]
  ·rw[nV e,mK e,yu];exact tO k r
def LY{kvs:List (κ×V)}{k:κ}(v:V)(h:kj kvs k=none):putK kvs k v=kvs++[(k,v)]:=by
 unfold putK;rw[tO,h];exact if_neg (by decide)
def td.wG{o:Option V}{u:Option Value}(r:td o u):o.isSome=u.isSome:=by
 cases o with
 | none=>cases u with
  | none=>rfl
  | some _=>exact(show False from r).elim
 | some _=>cases u with
  | none=>exact(show False from r).elim
  | some _=>rfl
def td.getD{o:Option V}{u:Option Value}{d:V}{a:Value}(r:td o u)(rd:RelV d a):RelV (o.getD d) (u.getD a):=by
 cases o with
 | none=>cases u with
  | none=>exact rd
  | some _=>exact(show False from r).elim
 | some _=>cases u with
  | none=>exact(show False from r).elim
  | some _=>exact r
def KV.val{kvs:List (κ×V)}{vs:List (κ×Value)}(r:KV kvs vs)(k:κ):td (kj kvs k) (valueAt vs k):=by
 unfold KV at r;induction r with
 | nil=>exact True.intro
 | @cons p q f a h t ih =>
  obtain⟨g,d⟩:=h;by_cases e:p.1=k
  ·have c:q.1=k:=by grind
   have b:valueAt (q::a) k=some q.2:=by simp[valueAt,sP,c]
   rw[nU e,b];exact d
  ·have c:¬q.1=k:=by grind
   have b:valueAt (q::a) k=valueAt a k:=by simp[valueAt,sP,c]
   rw[nV e,b];exact ih
def KV.any{kvs:List (κ×V)}{vs:List (κ×Value)}(r:KV kvs vs)(k:κ):(kvs.any λa=>decide (a.1=k))=vs.any λa=>decide (a.1=k):=by
 unfold KV at r;induction r with
 | nil=>rfl
 | cons h t ih=>rw[jG,jG,ih,h.1]
def KV.aeX{kvs:List (κ×V)}{vs:List (κ×Value)}(r:KV kvs vs)(k:κ){y:V}{u:Value}(b:RelV y u) :
  KV (kvs.map λa=>if a.1=k then(a.1,y)else a) (vs.map λa=>if a.1=k then(a.1,u)else a):=by
 unfold KV at r ⊢;induction r with
 | nil=>exact .nil
 | @cons p q c d h t ih =>
  rw[aO,aO];refine .cons ?_ ih;obtain⟨f,g⟩:=h;by_cases e:p.1=k
  ·grind
  ·grind
def KV.put{kvs:List (κ×V)}{vs:List (κ×Value)}(r:KV kvs vs)(k:κ){y:V}{u:Value}(a:RelV y u):KV (putK kvs k y) (stored vs k u):=by
 unfold putK stored;rw[r.any k];by_cases e:(vs.any λb=>decide (b.1=k))=true
 ·rw[if_pos e,if_pos e];exact r.aeX k a
 ·rw[if_neg e,if_neg e];exact Paired.snoc r ⟨rfl,a⟩
theorem KV.length{kvs:List (κ×V)}{vs:List (κ×Value)}(r:KV kvs vs):kvs.length=vs.length:=pK r
end
def tP{P:Program}{w:World}{k:bE}{u:Value}(r:RelV (kV k) u):(cB P w).is k u=true:=by
 cases k with
 | inl i=>obtain⟨t,e⟩:=(show ∃t,u=Value.int i t from r);subst e;exact A4 P w i t
 | inr x=>obtain⟨t,e⟩:=(show ∃t,u=Value.str x t from r);subst e;exact A5 P w x t
theorem wH{P:Program}{w:World}:∀{ks:List bE} {us:List Value},Vals (ks.map kV) us->ItemsAre (cB P w) ks us
 | [],_,r=>by rw[pO]at r;cases r;exact .nil
 | k::ks,_,r=>by
  rw[aO]at r;cases r with
  | cons h t=>exact .cons (tP h) (wH t)
section
variable {P:Program} {w:World} {H:Hp} {h:Heap} {a:Addr}
def TJ{u:HO}(ok:mR P w H h)(e:Rd H a u):gw P w H h a u:=e.ok ok
def GO{kvs:List (bE×V)}(ok:mR P w H h)(e:Rd H a (.dK kvs)):kvs.length<=sizeLine/\(a==sysModules)=false/\∃vs,KV kvs vs/\h.DictOf (cB P w) a vs :=
 show gw P w H h a (.dK kvs)from TJ ok e
def TK{kvs:List (bE×V)}(ok:mR P w H h)(e:H a=some (.dK kvs)):kvs.length<=sizeLine/\(a==sysModules)=false/\∃vs,KV kvs vs/\h.DictOf (cB P w) a vs:=GO ok (.inl e)
end
section
variable {X:Cx} {ae:List (Addr×Obj)} {σ:St} {H:Hp} {s:Shared} {a b:Addr} {k:List bE} {v:V} {r:Value} {A:Around} {E:Value->Shared->Prop} {xs:List (List bE×Addr×Value)}
def key_is(I:Inv X ae σ H s)(e:iG X.K H a (k.map kV)):(tupleKind (cB X.prog X.w)).is s.heap k a:=by
 obtain⟨c,r,⟨o,d,f,n,g⟩,_⟩:=I.tuple e;exact⟨o,c.toArray,n,d,f,g,by simpa using wH r⟩
def wI(I:Inv X ae σ H s)(e:Rd H a (.dT xs))(hk:fY X.K H xs):xs.length<=sizeLine/\(a==sysModules)=false/\s.heap.DictOfH (tupleKind (cB X.prog X.w)) a xs:=by
 obtain⟨z,y,o,c,d,f,g,h,i,j⟩:=(show gw X.prog X.w H s.heap a (.dT xs)from TJ I.hok e)
 exact⟨z,y,o,c,d,f,g,h,i,λx l=>key_is I (hk x l),j⟩
def aam{Q:Value->Shared->Prop}(d:A.units+1<cLine)(I:Inv X ae σ H s)(e:Rd H a (.dT xs))(hk:fY X.K H xs)(f:iG X.K H b (k.map kV))(h:∀c,Inv X ae σ H c->Q (.bool (atKey xs k).isSome) c) :
  wpAny (model X.prog X.w) A (compareOp .In (.ref b) (.ref a)) Q E s:=by
 obtain⟨_,hd,g⟩:=wI I e hk;exact wpAny_in_heap (sF d) (key_is I f) hd g (h _ (I.tok _))
def aan{Q:Value->Shared->Prop}(d:A.units+1<cLine)(I:Inv X ae σ H s)(e:Rd H a (.dT xs))(hk:fY X.K H xs)(f:iG X.K H b (k.map kV)) (h:∀c,Inv X ae σ H c->Q (.bool (!(atKey xs k).isSome)) c) :
  wpAny (model X.prog X.w) A (compareOp .NotIn (.ref b) (.ref a)) Q E s:=by
 obtain⟨_,hd,g⟩:=wI I e hk;exact wpAny_notIn_heap (sF d) (key_is I f) hd g (h _ (I.tok _))
def aao{Q:Value->Shared->Prop}{p:Addr×Value}(d:A.units+1<cLine)(I:Inv X ae σ H s)(e:Rd H a (.dT xs))(hk:fY X.K H xs)(f:iG X.K H b (k.map kV))(hp:atKey xs k=some p)(h:∀c,Inv X ae σ H c->Q p.2 c) :
  wpAny (model X.prog X.w) A (getItem (.ref a) (.ref b)) Q E s:=by
 obtain⟨_,hd,g⟩:=wI I e hk;exact wpAny_getItem_heap (sF d) (key_is I f) g hp (h _ (I.tok _))
def EL{c:Type} [DecidableEq c] (xs:List (c×Addr×Value)) (k:c) (a:Addr) (v:Value):(storedH xs k a v).length<=xs.length+1:=by
 unfold storedH;split
 ·grind
 ·grind
def Wb{Q:Unit->Shared->Prop}(g:A.units+1<cLine)(I:Inv X ae σ H s)(e:H a=some (.dT xs))(hk:fY X.K H xs)(i:iG X.K H b (k.map kV))(j:xs.length<sizeLine)
  (h:∀d,Inv X ae σ (cC H a (.dT (storedH xs k b r))) d->Q () d):wpAny (model X.prog X.w) A (setItem (.ref a) (.ref b) r) Q E s:=by
 obtain⟨_,hd,l⟩:=wI I (.inl e) hk;refine wpAny_setItem_heap (hsz:=d9 j) (sF g) (key_is I i) l λD m o=>h _ ?_
 obtain⟨q,p,t,f,u,y,B,_,C⟩:=m;exact I.write (x:=a) (e:=a) (by rw[e];exact True.intro) (.inl rfl) (λc J hc z=>(o.2 c hc).trans z) ⟨q,f⟩ ⟨(by have:=EL xs k b r;lia),hd,q,p,t,f,u,y,B,C⟩
def tQ(I:Inv X ae σ H s):sysModules<s.heap.objs.size:=pP (by decide) (show mainGlobals<s.heap.objs.size from(I.mod.glob.keeps I.bk).lt)
def TL(o:HO):TE:=λ_ H Q=>∀p,H p=none->Q (.ref p) (cC H p o)
def QH{pos:Pos}:PE X (.Dict [] [] pos) (TL (.dT [])):=λae s σ H Q I h =>
 wpAny_Dict_empty ⟨.ref s.heap.objs.size,_,I.laid (a:=s.heap.objs.size) (o:=.dT []) (t':=s.toks) (λ_ _ q=>bj _ q) (au _)
  ⟨dn _,fV.mpr (dF (bK (tQ I))),_,#[],0,cx _ rfl,⟨rfl,rfl,rfl⟩,rfl,rfl,mO⟩,rfl,h _ (I.hok.fresh (au _))⟩
def IW{c:Type} [DecidableEq c] (xs:List (c×Addr×Value)) (k:c):(atKey xs k).isSome=(xs.map (·.1)).any λj=>decide (j=k):=by
 unfold atKey;rw[D0,List.any_map,List.isSome_find?];rfl
end
noncomputable def TM(CX:Kq)(P:Program)(w:World)(K:W.Frag)(mg:Str->Option Value)(base:Heap)(N:List Str)(qual:Str)(a:Scope)(f:Addr)(cd:Value)(cl:List (Str×Addr))(A:Around)(aB:List Env)(s:Shared)(H:Hp)(E:XK):Cx where
 prog:=P
 w:=w
 K:=K
 mg:=mg
 base:=base
 A:=A.deeper (W.envX qual a s.heap.objs.size f cd cl)
 N:=N
 s₀:=s
 aa:=H
 env:=W.envX qual a s.heap.objs.size f cd cl
 aB:=aB
 stack:=W.envX qual a s.heap.objs.size f cd cl::aB
 ex:=[]
 calm:=true
 fn:=λ_=>false
 pn:=[]
 xe:=λe c=>wpAny (model P w) (A.deeper (W.envX qual a s.heap.objs.size f cd cl)) (leaving (W.envX qual a s.heap.objs.size f cd cl) e) (λ_ b=>CX aB H s E e b) (λd b=>CX aB H s E d b) c
structure mW (h:Heap) (H:Hp) (scope:Scope) (cl:List (Str×Addr)) (N:List Str) (τ:St):Prop where
 inj:∀x y c,cl.lookup x=some c->cl.lookup y=some c->x=y
 has:∀x,scope.names.lookup x=some .free->∃c,cl.lookup x=some c
 cell:∀x c,cl.lookup x=some c->∃v,h.IsCell c v
 free:∀x c,cl.lookup x=some c->H c=none
 val:∀(i:Nat) (x:Str) (v:V),N[i]?=some x->τ[i]?=some (some v)->∃c u,scope.names.lookup x=some .free/\cl.lookup x=some c/\h.IsCell c (some u)/\RelV v u
 len:τ.length=N.length
def mW.un(C:mW h H scope cl N τ)(u:Un fs [] H H' h h'):mW h' H' scope cl N τ where
 inj:=C.inj
 has:=C.has
 cell:=λx c e=>by
  obtain⟨v,o,ho,hd⟩:=C.cell x c e;obtain⟨a,q⟩:=u.any ho (C.free x c e) (by simp)
  exact⟨v,_,q,hd⟩
 free:=λx c e=>by
  obtain⟨v,o,ho,hd⟩:=C.cell x c e;exact u.free c o ho (C.free x c e) (by simp)
 val:=λi x v e1 b=>by
  obtain⟨c,w,k,e,⟨o,ho,hd⟩,r⟩:=C.val i x v e1 b;obtain⟨a,q⟩:=u.any ho (C.free x c e) (by simp)
  exact⟨c,w,k,e,⟨_,q,hd⟩,r⟩
 len:=C.len
def QI{K:W.Frag}
  (hk:scope.kind=.function) (t:scope.names.lookup x=some .local) (B:∀y∈scope.names,y.2≠.cell) (hd:A.handled=none) (a:Env0 P w K l base A m s H) (r:RelV v u) (C:mW s.heap H scope cl N q)
  (D:h1.Ns s.heap.objs.size λy=>[(x,u)].reverse.lookup y) (d:∀b o,s.heap.get? b=some o->h1.get? b=some o) :
  Inv (TM CX P w K l base (x::N) qual scope f cd cl A m s H E) [] (some v::q) H {s with heap:=h1,toks:=tk}:=by
 have g:∀b:Addr,b∉(TM CX P w K l base (x::N) qual scope f cd cl A m s H E).ex:=λb z=>absurd (show b∈([]:List Addr)from z) (by simp)
 refine⟨⟨a.mod,hk,rfl,rfl,au _,C.inj,λy j=>?_,λy c h _=>(by cases h),λ_=>hd,Around.frames_deeper a.frames,.inr ⟨rfl,rfl⟩,λb z=>absurd z (g b),a.bs,a.bsz,λb _ _=>g b,λb z=>absurd z (g b),a.funs,a.frf,a.tabs⟩,
  rfl,a.bare,Un.kept d,⟨_,D,λi y z h1 Q R=>?_⟩,λy c h=>?_,a.hok.fresh (au _),λy c h=>C.free y c h,λp hp=>absurd (show p∈([]:List (Addr×Obj))from hp) (by simp),a.hok.kept d,?_⟩
 ·have j:scope.names.lookup y=some .cell\/scope.names.lookup y=some .free:=j;rcases j with j | j
  ·exact absurd rfl (B _ (eY j))
  ·exact C.has y j
 ·cases i with
  | zero =>
   have e1:x=y:=cD (h1);have I:v=z:=by grind
   subst e1 I;exact⟨u,r,.inl ⟨t,by simp⟩⟩
  | succ i =>
   obtain⟨c,J,k,e,L,M⟩:=C.val i y z (by simpa using (show(x::N)[i+1]?=some y from h1)) (by grind)
   exact⟨J,M,.inr ⟨.inr k,c,e,L.keeps d⟩⟩
 ·obtain⟨v,z⟩:=C.cell y c h;exact⟨v,z.keeps d⟩
 ·show(some v::q).length=(x::N).length;rw[aN,aN,C.len]
def QJ{K:W.Frag}
  (ho:s.heap.get? f=some o) (B:o.data=.func (W.kla_fn name qual d body scope cl pm c D)) (L:s.heap.CodeRec c qual) (l:dW (k+1) A) (g:Env0 P w K M base A m s H)
  (R:bindArgs (W.kla_fn name qual d body scope cl pm c D) ⟨[u],[]⟩=pure [(x,u)]) (r:RelV v u) (hk:scope.kind=.function) (T:scope.isCoroutine=false) (X:scope.isGenerator=false) (Y:scope.names.lookup x=some .local) (p:∀y∈scope.names,y.2≠.cell)
  (C:mW s.heap H scope cl N Z) (hbody:∃t,PE (TM CX P w K M base (x::N) qual scope f c cl A m s H E) body t/\t (some v::Z) H Q) :
  codeAny (model P w) A (.call (.ref f) ⟨[u],[]⟩) (CR CX m P w H s Q E) s:=by
 have h:=g.mod.nolimit.keeps λb o e=>(g.bs b o e).1
 refine W.kla_callFunE l.depth ho B T X rfl L ?_;rw[R];refine aj (wpAny_newFunctionEnv p (λy hy=>?_) (λIX LO a=>⟨h.fresh _ a,?_⟩) hk)
 ·grind
 ·obtain⟨t,ht,hq⟩:=hbody;have i:∀b o,s.heap.get? b=some o->IX.get? b=some o:=λb o e=>a.extBut b o (bK (bf e)) (bj _ e)
  have I:=QI (CX:=CX) (qual:=qual) (f:=f) (cd:=c) (E:=E) (tk:=s.toks+1) hk Y p l.hd g r C LO i;refine W.kla_codeExpr (jH (ht [] _ _ H Q I hq) (λu' s' j=>?_) λe s' j=>j)
  obtain⟨v',H',J,rv,q⟩:=j;exact⟨v',H',J.os,J.bare,J.base,J.hok,rv,q⟩
def vw{pos p:Pos}(l:List Value)(h:TriplesOk l)(e:codeAmong p (l++[rawInt pos.line,rawInt pos.col,c])=some d):codeAmong p l=some d\/d=c:=by
 fun_induction TriplesOk l with
 | case1 =>
  simp only[fE,codeAmong,rawInt]at e;split at e
  ·cases e;exact .inr rfl
  ·cases e
 | case2 a t b u x rest ih =>
  simp only[sL,codeAmong]at e ⊢;split at e
  ·rename_i hc;rw[if_pos hc];exact .inl e
  ·rename_i hc;rw[if_neg hc];exact ih h e
 | case3 l f g=>exact h.elim
def yS:HO:=.ext λ_=>True
def EM(e:h.get? a=some o):gw P w H h a (.qw o yS):=⟨e,trivial,⟨o,e⟩,λ_ _ _ _=>trivial⟩
def Bx(c:Str->Option Value)(a:Heap):Prop:=∃b o,c "__builtins__"=some (.ref b)/\b≠builtinsNs/\b≠mainGlobals/\a.get? b=some o/\o.cls=.type "module"/\o.dict=some builtinsNs/\o.data=.plain
def LZ(H:Hp)(f:Addr)(qual:Str)(params:Arguments)(b:Expr)(a:Scope)(cl:List (Str×Addr)):Prop :=
 ∃o u h d i c e j g t,H f=some (.qw o u)/\o.data=.func (W.kla_fn "<lambda>" qual params b a cl h d i)/\d=.ref c/\H c=some (.qw e j)/\e.data=.fields g/\g[1]?=some (.str qual t)
def aeY(qual:Str)(params:Arguments)(c:Expr)(a:Scope)(cl:List (Str×Addr)):TE:=λ_ H Q=>∀f d,H f=none->cV H d->(∀b o,d b=some o->H b=some o\/H b=none)->LZ d f qual params c a cl->Q (.ref f) d
section
variable {X:Cx} {x:Str} {params:Arguments} {body:Expr} {scope:Scope} {lp:Pos} {cl:List (Str×Addr)} {c T:Addr}
def Wf(hx:x∈dG)(ht:W.tabIn X.K x=some (c,T))(hC:W.codeHdIn X.K c T=true)(TN:X.env.code=.ref c)(aaq:X.env.qual++"<lambda>"=A7 x)(hB:Bx X.mg X.base)
  (aeZ:defaultsOf y X.env=([],[])) (J:closureFor scope X.env=pure cl):PE X (.Lambda y body scope lp) (aeY (A7 x) y body scope cl):=by
 intro ae s σ H Q I h;have B:=I.tabs x hx c T ht;obtain⟨ps,hP,k,TQ⟩:=(I.hok T _ B);have C:=W.codeHd_of_K I.tj hC;have hg:=I.mod.glob.keeps I.bk;obtain⟨bm,ob,b1,b2,b3,b4,b5⟩:=hB;have ne:∀{b:Addr} {o:Obj},X.base.get? b=some o->b≠T:=λ{b o} e z=>by
  have:=(I.bs b o e).2;rw[z,B]at this;cases this
 refine W.kla_eval aeZ ?_;rw[aaq];cases hc:codeAmong lp ps.toList with
 | some cv =>
  obtain⟨cc,L,uc,vs,t,rfl,k1,k2,k3⟩:=TQ lp cv hc;refine W.kla_makeFunctionHit J I.ok.glob hg TN C hP k hc ⟨bm,ob,b1,b2,b3,ne b4,(I.bs _ _ b4).1,b5⟩ λKr f tk hk M=>?_
  have hn:=I.hok.fresh M;refine⟨.ref f.objs.size,cC H f.objs.size (.qw _ yS),I.laid (λb u e=>bj _ (hk b u e)) M (EM (cx _ rfl)),rfl,h _ _ hn (λb u e=>by rw[aJ (b8 e hn)];exact e) (λb o e=>?_) ?_⟩
  ·by_cases E:b=f.objs.size
   ·grind
   ·rw[aJ E]at e;exact .inl e
  ·exact⟨_,_,_,_,_,cc,L,uc,vs,t,aF,rfl,rfl,by rw[aJ (b8 k1 hn)];exact k1,k2,k3⟩
 | none =>
  refine W.kla_makeFunction J I.ok.glob hg TN C hP k hc (by
   obtain⟨o,es,ep,e,_⟩:=I.mod.glob;exact ne e) ⟨bm,ob,b1,b2,b3,ne b4,(I.bs _ _ b4).1,b5⟩ λg Kr f tk EN O0 gg ae0 N=>?_
  obtain⟨ai3,L,vs,t,e2,hoc,hd,hv⟩:=ae0;cases e2;have l:=I.hok.fresh O0;have R:=I.hok.fresh (bA O0 (d9 gg));have nfc:=sS gg;have cT:g≠T:=λz=>by rw[z,B]at l;cases l
  have fT:f.objs.size≠T:=λz=>by rw[z,B]at R;cases R
  let m:HO:=.qw L yS
  let p:Hp:=cC H g m
  have hn1:p f.objs.size=none:=by show cC H g m _=_;rw[aJ nfc];exact R
  let D:Obj:=W.kla_obj "<lambda>" (A7 x) y body scope cl ((X.mg "__name__").getD .none) g Kr
  let Y:Hp:=cC p f.objs.size (.qw D yS)
  have r:cV H p:=λb u e=>by show cC H g m b=_;rw[aJ (b8 e l)];exact e
  have a:cV p Y:=λb u e=>by show cC p _ _ b=_;rw[aJ (b8 e hn1)];exact e
  have keep:∀b o,b≠T->s.heap.get? b=some o->(f.push D).get? b=some o:=λb o E e=>bj _ (EN b o E e)
  have nT:∀b,H b=none->b≠T:=λb n z=>by rw[z,B]at n;cases n
  have lt:∀b o,s.heap.get? b=some o->b<s.heap.objs.size:=λb o e=>bf e
  have hf2:∀b o,s.heap.get? b=some o->H b=none->Y b=none:=λb o e n=>by
   show cC (cC H g m) _ _ b=none;have l1:=lt b o e;rw[aJ (bK (cb l1 (bA O0 (d9 gg)))),aJ (bK (cb l1 O0))];exact n
  have un:Un X.fs [] H Y s.heap (f.push D):=⟨λb o e n _ _=>keep b o (nT b n) e,λb o e n _ _=>⟨o.slots,keep b o (nT b n) e⟩,λb o e n _=>hf2 b o e n,λb o e _=>by
    by_cases E:b=T
    ·subst E;exact⟨_,bj _ N⟩
    ·exact⟨o,keep b o E e⟩,λb xs e=>a _ _ (r _ _ e),λb o u e=>a _ _ (r _ _ e),λb q e=>a _ _ (r _ _ e)⟩
  have hok:mR X.prog X.w Y (f.push D):=λb u e=>by
   by_cases i:b=f.objs.size
   ·subst i;have e:cC p f.objs.size (.qw D yS) f.objs.size=some u:=e;rw[aF]at e;cases e;exact EM (cx _ rfl)
   ·have e:cC p f.objs.size (.qw D yS) b=some u:=e;rw[aJ i]at e;by_cases j:b=g
    ·subst j;have e:cC H b m b=some u:=e;rw[aF]at e;cases e;exact EM (bj _ hoc)
    ·have e:cC H g m b=some u:=e;rw[aJ j]at e;by_cases Z:b=T
     ·subst Z;rw[B]at e;cases e;refine⟨_,bj _ N,?_,λpos cv z=>?_⟩
      ·simpa using TriplesOk_snoc lp.line lp.col (.ref g) ps.toList k
      ·rcases vw ps.toList k (by simpa using z)with z | z
       ·obtain⟨cc,oc',uc,yT,t',q1,q2,q3⟩:=TQ pos cv z;exact⟨cc,oc',uc,yT,t',q1,a _ _ (r _ _ q2),q3⟩
       ·exact⟨g,L,yS,vs,t,z,a _ _ (by show cC H g m g=_;exact aF),hd,hv⟩
     ·refine(I.hok b u e).yD (λd v yC q=>keep d v ?_ q) (λd q=>a _ _ (r _ _ q)) (λd xs q=>a _ _ (r _ _ q)) λd ob' v q=>a _ _ (r _ _ q)
      rcases yC with rfl | yC
      ·exact Z
      ·rintro rfl
       rw[B]at yC;cases yC
  refine⟨.ref f.objs.size,Y,I.un un hok,rfl,h _ _ R (r.trans a) (λb o e=>?_) ?_⟩
  ·by_cases i:b=f.objs.size
   ·rw[i];exact .inr R
   ·have e:cC p f.objs.size (.qw D yS) b=some o:=e;rw[aJ i]at e;by_cases j:b=g
    ·rw[j];exact .inr l
    ·have e:cC H g m b=some o:=e;rw[aJ j]at e;exact .inl e
  ·exact⟨_,_,_,_,_,g,L,yS,vs,t,(aF),rfl,rfl,a _ _ (aF),hd,hv⟩
end
def aat{K:W.Frag}{st:Stmt}(M:Eg K x qual st f fd)(S:dP N ps (az st))
  (B:dW (k+1) A) (h:Env0 P w K i base A c s H) (R:BindsTo s fd args (ps.zip us)) (r:Vals vs us) (T:vs.length=ps.length)
  (hbody:∀d:Value,∃t,PSs (fP CX P w K i base N qual (az st) f d A c s H E) (dz st) t/\t {nx:=λ_ H'=>Q .bM H',rt:=Q} (start N vs) H) :
  codeAny (model P w) A (.call (.ref f) args) (CR CX c P w H s Q E) s:=by
 obtain⟨oc,od,kV,X,pm,an,d,ct,AK,rfl,Y,Z⟩:=M.ex;have g:∀b o,base.get? b=some o->s.heap.get? b=some o:=λb o e=>(h.bs b o e).1
 have C:=h.mod.kin.keeps g;have j:∀y∈ps.zip us,(az st).names.lookup y.1=some .local\/((az st).names.lookup y.1=some .cell/\((cellsFrom (s.heap.objs.size+1) (az st).names []).lookup y.1).isSome=true):=λy hy=>by
  rcases S.par y.1 (yt hy).1 with q | q
  ·exact .inl q
  ·exact .inr ⟨q,W.cellsFrom_some _ _ _ (.inl q)⟩
 refine codeAny_call_function B.depth (C _ _ Y) rfl S.co S.gen rfl (W.codeRec_of C Z) (R _ _ _ _ (KN S.kind j λenv he D L=>?_))
 subst he;refine⟨(h.mod.nolimit.keeps g).keeps L.toInCall.keep,codeAny_func ?_⟩;obtain⟨t,ht,hq⟩:=hbody d;have I:Inv (fP CX P w K i base N qual (az st) f d A c s H E) [] (start N vs) H D:=wD S B.hd h T r L;refine jH (ht [] D (start N vs) H _ I hq) (λfl l a=>?_) λe l a=>a
 have fin:∀{m:St} {H':Hp} {v:V} {u:Value},Inv (fP CX P w K i base N qual (az st) f d A c s H E) [] m H' l->RelV v u->Q v H'->CE c P w H s Q u l:=λ{_ H' v _} J p q=>⟨v,H',J.os,J.bare,J.base,J.hok,p,q⟩
 cases fl with
 | ret u=>obtain⟨v,m,H',J,p,q⟩:=a;exact fin J p q
 | next=>obtain⟨m,H',J,q⟩:=a;exact fin (v:=V.bM) J rfl q
 | brk=>obtain⟨_,_,_,q⟩:=a;exact False.elim q
 | cont=>obtain⟨_,_,_,q⟩:=a;exact False.elim q
end L2
namespace L2.U
open PySem PySem.Spec PyProof.Rows
def nw{b:Sort u}(a:b):∃x,x=a:=⟨_,rfl⟩
noncomputable abbrev PV.lst (ps:List PV):PV:=.nd .lst ps
structure Gr (F F':Fz):Prop where
 s:cV F.F F'.F
 m:∀(n:Nat) (a:Addr),F.μ[n]?=some a->F'.μ[n]?=some a
def Gr.refl(F:Fz):Gr F F:=⟨cV.refl _,λ_ _ h=>h⟩
def Gr.trans(a:Gr F F1)(b:Gr F1 F2):Gr F F2:=⟨a.s.trans b.s,λn c h=>b.m n c (a.m n c h)⟩
def bD{K:W.Frag}(e:cV H H')(h:iG K H a xs):iG K H' a xs:=by
 rcases h with(h | ⟨o,h⟩) | h
 ·exact .inl (.inl (e _ _ h))
 ·exact .inl (.inr ⟨o,e _ _ h⟩)
 ·exact .inr h
def QK(e:cV H H')(h:Rd H a u):Rd H' a u:=h.imp (e _ _) (by rintro⟨o,q⟩;exact⟨o,e _ _ q⟩)
def By{K:W.Frag}(e:cV H H')(h:lB K H a xs):lB K H' a xs:=h.imp (QK e) id
def _root_.L2.lB.of{K:W.Frag}(h:H a=some (.lst xs)):lB K H a xs:=.inl (.inl h)
section
variable {K:W.Frag} {F F':Fz}
def lQ.to(h:lQ K G H a x k vs)(g:cV G l)(e:∀o,H a=some o->H' a=some o)(m:y=true->x=true):lQ K l H' a y k vs:=by
 have d:∀{f:List (List bE×Addr×Value)},fY K G f->fY K l f:=λhk z p=>bD g (hk z p)
 match k,h with
 | .aq,⟨c,b⟩ =>
  refine⟨?_,?_⟩
  ·grind
  ·rcases b with(b | ⟨o,b⟩) | b
   ·exact .inl (.inl (e _ b))
   ·exact .inl (.inr ⟨o,e _ b⟩)
   ·exact .inr b
 | .lst,h =>
  cases y with
  | true=>rw[m rfl]at h;exact e _ h
  | false =>
   cases x with
   | true=>exact lB.of (e _ h)
   | false =>
    rcases(h)with(h | ⟨o,h⟩) | h
    ·exact .inl (.inl (e _ h))
    ·exact .inl (.inr ⟨o,e _ h⟩)
    ·exact .inr h
 | .qu C ns,⟨q,r,fs,c,b,i,t,u⟩=>exact⟨q,r,fs,c,b,i,e _ t,u⟩
 | .fJ false ks,⟨j,c,b⟩=>exact⟨j,e _ c,b⟩
 | .fJ true ks,⟨f,c,b,i⟩=>exact⟨f,e _ c,d b,i⟩
mutual
theorem bZ.mono(e:Gr F F'):∀{p:PV} {v:V},bZ K F p v->bZ K F' p v
 | .bM,_,h=>by simpa only[bZ]using h
 | .bl _,_,h=>by simpa only[bZ]using h
 | .int _,_,h=>by simpa only[bZ]using h
 | .str _,_,h=>by simpa only[bZ]using h
 | .fn _,_,h=>by simpa only[bZ]using h
 | .ref n,_,h=>by
  simp only[bZ]at h ⊢;obtain⟨a,b,c⟩:=h;exact⟨a,e.m _ _ b,c⟩
 | .nd k g,_,h=>by
  simp only[bZ]at h ⊢;obtain⟨a,d,b,c,f⟩:=h;exact⟨a,d,b,c.to e.s (λo q=>e.s _ _ q) id,aG.mono e f⟩
theorem aG.mono(e:Gr F F'):∀{ps:List PV} {vs:List V},aG K F ps vs->aG K F' ps vs
 | [],_,h=>by simpa only[aG]using h
 | _::_,_,h=>by
  simp only[aG]at h ⊢;obtain⟨v,r,a,b,c⟩:=h;exact⟨v,r,a,b.mono e,aG.mono e c⟩
end
def aG.cG(h:aG K F (p::ps) vs):∃v r,vs=v::r/\bZ K F p v/\aG K F ps r:=by
 simpa only[aG]using h
def aG.c5(h:aG K F [] vs):vs=[]:=by simpa only[aG]using h
theorem tV:∀{ps:List PV} {vs:List V},aG K F ps vs↔Paired (bZ K F) ps vs
 | [],vs=>⟨λh=>by rw[h.c5];exact .nil,λh=>by cases h;exact .nil⟩
 | p::ps,vs=>⟨λh=>by obtain⟨v,r,rfl,a,b⟩:=h.cG;exact .cons a (tV.mp b),λh=>by cases h with | cons a b=>exact .cons a (tV.mpr b)⟩
def aG.length(h:aG K F ps vs):ps.length=vs.length:=pK (tV.mp h)
theorem aG.append:∀{ps a:List PV} {vs ws:List V},aG K F ps vs->aG K F a ws->aG K F (ps++a) (vs++ws)
 | [],_,_,_,h,t=>by rw[h.c5];exact t
 | _::_,_,_,_,h,t=>by
  obtain⟨v,r,rfl,b,c⟩:=h.cG;exact .cons b (c.append t)
theorem aG.get:∀{ps:List PV} {vs:List V} {i:Nat} {p:PV},aG K F ps vs->ps[i]?=some p->∃v,vs[i]?=some v/\bZ K F p v
 | [],_,_,_,_,e=>by cases e
 | _::_,_,0,_,h,e=>by
  obtain⟨v,r,rfl,a,_⟩:=h.cG;cases e;exact⟨v,rfl,a⟩
 | _::_,_,_+1,_,h,e=>by
  obtain⟨v,r,rfl,_,b⟩:=h.cG;exact b.get e
theorem aG.take:∀{ps:List PV} {vs:List V} (n:Nat),aG K F ps vs->aG K F (ps.take n) (vs.take n)
 | _,_,0,_=>by simp only[List.take_zero];exact .nil
 | [],_,_+1,h=>by rw[h.c5];simp only[List.take_nil];exact .nil
 | _::_,_,n+1,h=>by
  obtain⟨v,r,rfl,a,b⟩:=h.cG;exact .cons a (b.take n)
theorem aG.drop:∀{ps:List PV} {vs:List V} (n:Nat),aG K F ps vs->aG K F (ps.drop n) (vs.drop n)
 | _,_,0,h=>h
 | [],_,_+1,h=>by rw[h.c5];simp only[List.drop_nil];exact .nil
 | _::_,_,n+1,h=>by
  obtain⟨v,r,rfl,_,a⟩:=h.cG;exact a.drop n
theorem aG.set(r:bZ K F p v):∀{ps:List PV} {vs:List V} (i:Nat),aG K F ps vs->aG K F (ps.set i p) (vs.set i v)
 | [],_,_,h=>by rw[h.c5];exact .nil
 | _::_,_,0,h=>by
  obtain⟨v,b,rfl,_,a⟩:=h.cG;exact .cons r a
 | _::_,_,i+1,h=>by
  obtain⟨v,b,rfl,c,a⟩:=h.cG;exact .cons c (a.set r i)
theorem aG.reverse:∀{ps:List PV} {vs:List V},aG K F ps vs->aG K F ps.reverse vs.reverse
 | [],_,h=>by rw[h.c5];exact .nil
 | _::_,_,h=>by
  obtain⟨v,r,rfl,a,b⟩:=h.cG;rw[yf,yf];exact b.reverse.append (.cons a .nil)
def dQ:bZ K F (.ref n) v↔∃a,F.μ[n]?=some a/\v=.ref a:=by simp only[bZ]
def tW:bZ K F (.fn x) v↔∃a,v=.ref a/\W.nsIn K mainGlobals x=some (some (.ref a)):=by simp only[bZ]
def gH:bZ K F (.lst ps) v↔∃a vs,v=.ref a/\lB K F.F a vs/\aG K F ps vs:=jJ
end
structure aw where
 k:Kd
 ps:List PV
structure cL where
 ρ:List (Option PV)
 h:List aw
noncomputable def live(c:aw):Bool:=match c.k with | .aq=>false | _=>true
structure lG (K:W.Frag) (aa:Hp) (ab F:Fz) (h:List aw) (H:Hp):Prop where
 sub:cV F.F H
 keep:cV aa H
 base:Gr ab F
 fresh:∀a o,F.F a=some o->ab.F a=some o\/aa a=none
 new:∀(n:Nat) (a:Addr),F.μ[n]?=some a->aa a=none/\∃o,H a=some o
 hl:h.length=F.μ.length
 nd:F.μ.Nodup
 cell:∀(n:Nat) (c:aw) (a:Addr),h[n]?=some c->F.μ[n]?=some a->live c=true->F.F a=none/\∃vs,lQ K F.F H a true c.k vs/\aG K F c.ps vs
structure Lc (K:W.Frag) (F:Fz) (ρ:List (Option PV)) (σ:St):Prop where
 av:∀(i:Nat) (p:PV),ρ[i]?=some (some p)->∃v,σ[i]?=some (some v)/\bZ K F p v
 len:ρ.length=σ.length
structure Rep (K:W.Frag) (aa:Hp) (ab F:Fz) (st:cL) (σ:St) (H:Hp):Prop where
 c:lG K aa ab F st.h H
 l:Lc K F st.ρ σ
def fw(h:H p=none):cV H (cC H p o):=λb u q=>by rw[aJ (b8 q h)];exact q
section
variable {K:W.Frag} {aa H H':Hp} {ab F F':Fz} {h:List aw} {st:cL} {σ:St}
def Lc.mono(L:Lc K F ρ σ)(e:Gr F F'):Lc K F' ρ σ:=⟨λi p z=>let ⟨v,a,b⟩:=L.av i p z;⟨v,a,b.mono e⟩,L.len⟩
def lG.after(R:lG K aa ab F h H)(e:cV H H')(f:cV F.F F'.F)(m:F'.μ=F.μ)(s:cV F'.F H')(n:∀a o,F'.F a=some o->F.F a=some o\/H a=none):lG K aa ab F' h H' where
 sub:=s
 keep:=R.keep.trans e
 base:=R.base.trans ⟨f,λ_ _ q=>by rw[m];exact q⟩
 fresh:=λa o q=>by
  rcases n a o q with z | z
  ·exact R.fresh a o z
  ·exact .inr (R.keep.free z)
 new:=λn a q=>by rw[m]at q;obtain⟨b,o,d⟩:=R.new n a q;exact⟨b,o,e _ _ d⟩
 hl:=by rw[m];exact R.hl
 nd:=by rw[m];exact R.nd
 cell:=λi c a hc g hk=>by
  rw[m]at g;obtain⟨b,j,d,k⟩:=R.cell i c a hc g hk;refine⟨?_,j,d.to f (λo q=>e _ _ q) id,k.mono ⟨f,λ_ _ q=>by rw[m];exact q⟩⟩
  obtain⟨_,o,ho⟩:=R.new i a g;cases q:F'.F a with
  | none=>rfl
  | some u =>
   rcases n a u q with z | z
   ·rw[b]at z;cases z
   ·rw[ho]at z;cases z
def Rep.after(R:Rep K aa ab F st σ H)(e:cV H H')(f:cV F.F F'.F)(m:F'.μ=F.μ)(s:cV F'.F H')(n:∀a o,F'.F a=some o->F.F a=some o\/H a=none):Rep K aa ab F' st σ H' :=
 ⟨R.c.after e f m s n,R.l.mono ⟨f,λ_ _ q=>by grind⟩⟩
def Rep.sub(R:Rep K aa ab F st σ H):cV F.F H:=R.c.sub
def Rep.laid(R:Rep K aa ab F st σ H)(o:HO)(hp:H p=none):Rep K aa ab ⟨cC F.F p o,F.μ⟩ st σ (cC H p o)/\Gr F ⟨cC F.F p o,F.μ⟩:=by
 have d:=R.sub.free hp;refine⟨R.after (fw hp) (fw d) rfl (λb u q=>?_) (λb u q=>?_),fw d,λ_ _ q=>q⟩
 ·by_cases a:b=p
  ·subst a;rw[show(Fz.mk (cC F.F b o) F.μ).F b=cC F.F b o b from rfl,aF]at q;rw[aF];exact q
  ·rw[show(Fz.mk (cC F.F p o) F.μ).F b=cC F.F p o b from rfl,aJ a]at q;rw[aJ a];exact R.sub _ _ q
 ·by_cases a:b=p
  ·grind
  ·rw[show(Fz.mk (cC F.F p o) F.μ).F b=cC F.F p o b from rfl,aJ a]at q;exact .inl q
def lG.alloc(R:lG K aa ab F h H)(hp:H p=none)(i:lQ K F.F (cC H p o) p true c.k vs)(f:aG K F c.ps vs) :
  lG K aa ab ⟨F.F,F.μ++[p]⟩ (h++[c]) (cC H p o)/\Gr F ⟨F.F,F.μ++[p]⟩/\(F.μ++[p])[h.length]?=some p:=by
 have g:Gr F ⟨F.F,F.μ++[p]⟩:=⟨cV.refl _,λn a q=>by
  grind⟩
 have e:∀n a,(F.μ++[p])[n]?=some a->F.μ[n]?=some a\/n=F.μ.length/\a=p:=λn a q=>by
  grind
 have r:∀n a,F.μ[n]?=some a->a≠p:=λn a q z=>by
  subst z;obtain⟨_,o,ho⟩:=R.new n a q;rw[hp]at ho;cases ho
 refine⟨⟨λb u q=>by rw[aJ (b8 (R.sub _ _ q) hp)];exact R.sub _ _ q,R.keep.trans (fw hp),R.base.trans g,R.fresh,λn a q=>?_,by simp[R.hl],?_,λn d a hd j hk=>?_⟩,g,by rw[R.hl];simp⟩
 ·rcases e n a q with z | ⟨_,rfl⟩
  ·obtain⟨l,u,m⟩:=R.new n a z;exact⟨l,u,fw hp _ _ m⟩
  ·exact⟨R.keep.free hp,o,aF⟩
 ·rw[pE];refine⟨R.nd,by simp,λa j b f z=>?_⟩
  obtain⟨n,i⟩:=pz.mp j;rw[aV]at f;exact r n a i (z.trans f)
 ·rcases e n a j with z | ⟨rfl,rfl⟩
  ·rw[ij (by rw[R.hl];exact(bW.mp z).1)]at hd
   obtain⟨l,ws,m,t⟩:=R.cell n d a hd z hk;exact⟨l,ws,m.to (cV.refl _) (λu q=>fw hp _ _ q) id,t.mono g⟩
  ·rw[<-R.hl,mB (au _),Nat.sub_self]at hd;cases hd;exact⟨R.sub.free hp,vs,i,f.mono g⟩
def lG.write(R:lG K aa ab F h H)(hc:h[n]?=some c)(r:live c=true)(f:F.μ[n]?=some a)(w:lQ K F.F (cC H a o) a true d.k vs)(g:aG K F d.ps vs) :
  lG K aa ab F (h.set n d) (cC H a o):=by
 obtain⟨hF,_⟩:=R.cell n c a hc f r;refine⟨λb u q=>by rw[aJ (λz=>by grind)];exact R.sub _ _ q,λb u q=>?_,R.base,R.fresh,λm b q=>?_,by rw[sO];exact R.hl,R.nd,λm e b he l hk=>?_⟩
 ·rw[aJ (λz=>by subst z;rw[(R.new n b f).1]at q;cases q)];exact R.keep _ _ q
 ·obtain⟨i,u,j⟩:=R.new m b q;refine⟨i,?_⟩;by_cases g:b=a
  ·subst g;exact⟨o,aF⟩
  ·exact⟨u,by rw[aJ g];exact j⟩
 ·by_cases p:n=m
  ·grind
  ·rw[kF p]at he;obtain⟨i,ws,j,t⟩:=R.cell m e b he l hk;have ne:b≠a:=λz=>by
    subst z;obtain⟨x,e1⟩:=bW.mp l;obtain⟨y,v⟩:=bW.mp f;exact p ((D8 R.nd).mp (v.trans e1.symm))
   exact⟨i,ws,j.to (cV.refl _) (λu q=>by rw[aJ ne];exact q) id,t⟩
end
def _root_.L2.PE.imp(h:PE X e t)(b:∀a H Q,t' a H Q->t a H Q):PE X e t':=λc s a H Q I hw=>h c s a H Q I (b _ _ _ hw)
def _root_.L2.PT.imp(h:PT X e t)(b:∀a H Q,t' a H Q->t a H Q):PT X e t':=λc s a H Q I hw=>h c s a H Q I (b _ _ _ hw)
def _root_.L2.PW.imp(h:PW X e t)(b:∀a H Q,t' a H Q->t a H Q):PW X e t':=λw c s a H Q I hw=>h w c s a H Q I (b _ _ _ hw)
def _root_.L2.PA.imp(h:PA X e t)(b:∀a H Q,t' a H Q->t a H Q):PA X e t':=λpos c s a H Q I hw=>h pos c s a H Q I (b _ _ _ hw)
def _root_.L2.PS.imp{st:Stmt}(h:PS X st t)(b:∀D a H,t' D a H->t D a H):PS X st t':=λc s a H D I hw=>h c s a H D I (b _ _ _ hw)
def _root_.L2.PSs.imp{st:List Stmt}(h:PSs X st t)(b:∀D a H,t' D a H->t D a H):PSs X st t':=λc s a H D I hw=>h c s a H D I (b _ _ _ hw)
def _root_.L2.PG.imp(h:PG X e t)(b:∀v a H Q,t' v a H Q->t v a H Q):PG X e t':=λc s a H v u Q I r hw=>h c s a H v u Q I r (b _ _ _ _ hw)
def _root_.L2.PGs.imp(h:PGs X e t)(b:∀v a H Q,t' v a H Q->t v a H Q):PGs X e t':=λc s a H v u Q I r hw=>h c s a H v u Q I r (b _ _ _ _ hw)
def _root_.L2.PI.imp(h:PI X b e t)(c:∀a H Q,t' a H Q->t a H Q):PI X b e t':=λd s a H R I hw=>h d s a H R I (c _ _ _ hw)
inductive Rs (α:Type) where
 | ok (a:α) | ex (m:Bool) (C:Str)
abbrev Gx(a:Type):=cL->Option (Rs a×cL)
noncomputable def aaw{b c:Type}(k:b->Gx c):Rs b×cL->Option (Rs c×cL)
 | (.ok a,st)=>k a st
 | (.ex m C,st)=>some (.ex m C,st)
def bnd{a b:Type}(f:Gx a)(k:a->Gx b):Gx b:=λc=>(f c).bind (aaw k)
noncomputable def bg{b:Type}(a:b):Gx b:=λc=>some (.ok a,c)
noncomputable def hp{b:Type}(g:List aw->Option b):Gx b:=λc=>(g c.h).map λa=>(.ok a,c)
noncomputable def lH{b:Type}(o:Option b):Gx b:=λc=>o.map λa=>(.ok a,c)
def Dm(H H':Hp):Prop:=∀b o,H b=some o->∃a,H' b=some a
def jn(P:Program)(w:World):Kq:=λh H s E e c=>∃a d i B f,e=.ref a/\c.os=s.os/\AllBare c.gens/\Un (pV h) [] H f s.heap c.heap/\mR P w f c.heap/\Dm H f/\E d none f /\
 Heap.FlyingW B h a d i c.heap/\(∀b o,f b=some o->∃g,B.get? b=some g)/\∀b g,s.heap.get? b=some g->H b=none->b∉pV h->B.get? b=some g
def Bz:Ey (jn P w) X E0:=(by rintro _ _ _ _ _ _ _ ⟨_,_,_,_,_,_,_,_,_,_,_,h,_⟩;exact h.elim)
def L0(X:Cx)(g:Hp)(h F:Fz)(C:Str)(st:cL):Bool->Prop
 | true=>∀c d i f s j a b o,Rep X.K g h c st d i->Gr F c->Inv X f d i s->ClsAt X.K C b->Heap.MadeExcOf s.heap j a b o->X.xe (.ref a) {s with heap:=j}
 | false=>∀d f k l e m,Inv X f d k l->jn X.prog X.w X.stack k l (λb _ p=>ClsAt X.K C b/\∃c,Rep X.K g h c st d p/\Gr F c) e m->X.xe e m
section
variable {X:Cx} {aa H:Hp} {ab F F1:Fz} {st bz:cL} {σ:St} {α β γ δ:Type}
def L0.mono(h:L0 X aa ab F C st m)(s:Gr F F1):L0 X aa ab F1 C st m:=by
 cases m with
 | true=>exact λd f g i j k a b l R z=>h d f g i j k a b l R (s.trans z)
 | false =>
  rintro f i H1 j e o I ⟨a,b,p,B,g,k,q,r,t,u,v,⟨c,d,R,z⟩,w⟩
  exact h f i H1 j e o I ⟨a,b,p,B,g,k,q,r,t,u,v,⟨c,d,R,s.trans z⟩,w⟩
def L3(X:Cx)(aa:Hp)(ab F:Fz)(P:α->cL->Prop):Rs α×cL->Prop
 | (.ok a,st)=>P a st
 | (.ex m C,st)=>L0 X aa ab F C st m
def At(X:Cx)(aa:Hp)(ab F:Fz)(st:cL)(f:Gx α)(P:α->cL->Prop):Prop:=∃r,f st=some r/\L3 X aa ab F P r
def L3.imp(h:L3 X aa ab F P r)(g:Gr F F1)(i:∀a b,P a b->c a b):L3 X aa ab F1 c r:=by
 match r,h with
 | (.ok a,st),h=>exact i a st h
 | (.ex m C,st),h=>exact L0.mono h g
def At.imp(h:At X aa ab F st f P)(g:Gr F F1)(i:∀a b,P a b->c a b):At X aa ab F1 st f c :=
 let ⟨r,d,e⟩:=h;⟨r,d,e.imp g i⟩
def aZ(h:o.bind f=some b):∃a,o=some a/\f a=some b:=by
 cases o with
 | none=>cases h
 | some a=>exact⟨a,rfl,h⟩
def bt(h:o.map f=some b):∃a,o=some a/\f a=b:=by
 simp_all
def At.bnd(h:At X aa ab F st (bnd f k) P):At X aa ab F st f (λa bz=>At X aa ab F bz (k a) P):=by
 obtain⟨r,d,c⟩:=h;obtain⟨q,e1,b⟩:=aZ d;refine⟨q,e1,?_⟩
 match q,b with
 | (.ok a,s1),b=>exact⟨r,b,c⟩
 | (.ex m C,s1),b=>cases b;exact c
def At.bg(h:At X aa ab F st (bg a) P):P a st:=by
 obtain⟨r,b,c⟩:=h;cases b;exact c
def At.hp(h:At X aa ab F st (hp g) P):∃a,g st.h=some a/\P a st:=by
 obtain⟨r,b,c⟩:=h;obtain⟨a,e1,d⟩:=bt b;subst d;exact⟨a,e1,c⟩
def At.lH(h:At X aa ab F st (lH g) P):∃a,g=some a/\P a st:=by
 obtain⟨r,b,c⟩:=h;obtain⟨a,e1,d⟩:=bt b;subst d;exact⟨a,e1,c⟩
def Tx(X:Cx)(aa:Hp)(ab:Fz)(e:Fz->α->β->Prop)(F:Fz)(st:cL)(f:Gx α)(σ:St)(Q:β->Hp->Prop):Prop :=
 At X aa ab F st f λa g=>∀b d c,Rep X.K aa ab c g σ d->Gr F c->e c a b->Q b d
def tX(X:Cx)(aa:Hp)(ab:Fz)(a:Fz->α->β->Prop)(f:Gx α):St->Hp->(β->Hp->Prop)->Prop:=λσ H Q=>∃F st,Rep X.K aa ab F st σ H/\Tx X aa ab a F st f σ Q
def Tx.mono(h:Tx X aa ab c F st f σ Q)(g:Gr F F1)(i:∀b H',Q b H'->d b H'):Tx X aa ab c F1 st f σ d :=
 At.imp h g λa j q b H' e R s r=>i _ _ (q b H' e R (g.trans s) r)
def Tx.bnd(h:Tx X aa ab d F st (bnd f k) σ Q)
  (i:∀a b F1 bz c,Rep X.K aa ab F1 bz σ c->Gr F F1->g F1 a b->Tx X aa ab d F1 bz (k a) σ Q->j b c):Tx X aa ab g F st f σ j :=
 At.imp (At.bnd h) (Gr.refl F) λa bz q b c F1 l e m=>i a b F1 bz c l e m (Tx.mono (q) e λ_ _ z=>z)
def Tx.bg(h:Tx X aa ab c F st (bg a) σ Q):∀b H' F',Rep X.K aa ab F' st σ H'->Gr F F'->c F' a b->Q b H':=At.bg h
def Tx.hp(h:Tx X aa ab c F st (hp g) σ Q):∃a,g st.h=some a/\∀b H' F',Rep X.K aa ab F' st σ H'->Gr F F'->c F' a b->Q b H':=At.hp h
def Tx.lH(h:Tx X aa ab c F st (lH g) σ Q):∃a,g=some a/\∀b H' F',Rep X.K aa ab F' st σ H'->Gr F F'->c F' a b->Q b H':=At.lH h
end
abbrev rB:Fz->Bool->Bool->Prop:=λ_ a b=>a=b
abbrev tE(X:Cx)(a:Hp)(b:Fz)(f:Gx PV):TE:=tX X a b (bZ X.K) f
abbrev tT(X:Cx)(a:Hp)(b:Fz)(f:Gx Bool):TT:=tX X a b rB f
abbrev tA(X:Cx)(a:Hp)(b:Fz)(f:Gx (List PV)):TA:=tX X a b (aG X.K) f
section
variable {X:Cx} {aa:Hp} {ab:Fz} {a b c e:Expr} {es rest:List Expr} {fa fb fc:Gx PV} {ga gb:Gx Bool} {ts:Gx (List PV)} {pos:Pos}
noncomputable def rd(i:Nat):Gx PV:=λd=>(d.ρ[i]?).join.map λp=>(.ok p,d)
def TU(i:Nat)(h:PE X (.Name x pos) (Pn i)):PE X (.Name x pos) (tE X aa ab (rd i)):=h.imp <| by
 rintro σ H Q ⟨F,st,R,r,d,f⟩
 obtain⟨p,e1,g⟩:=bt d;subst g;cases z:st.ρ[i]? with
 | none=>rw[z]at e1;cases e1
 | some o =>
  rw[z]at e1;cases o with
  | none=>cases e1
  | some m =>
   cases e1;obtain⟨v,j,k⟩:=R.l.av i p z;exact⟨v,j,f v H F R (Gr.refl F) k⟩
def BA(h:PE X e (tC v))(d:∀F,bZ X.K F p v):PE X e (tE X aa ab (bg p)):=h.imp (by rintro σ H Q ⟨F,st,R,q⟩;exact q.bg v H F R (Gr.refl F) (d F))
def aax{j pos}:PE X (.Constant (.int i) j pos) (tE X aa ab (bg (.int i))):=BA Vo λ_=>aH.mpr rfl
def ae1{j pos}:PE X (.Constant (.bool i) j pos) (tE X aa ab (bg (.bl i))):=BA ZI λ_=>cj.mpr rfl
def aay{j pos}:PE X (.Constant .none j pos) (tE X aa ab (bg .bM)):=BA Vp λ_=>dA.mpr rfl
def aaz{j pos}:PE X (.Constant (.str i) j pos) (tE X aa ab (bg (.str i))):=BA Vq λ_=>cZ.mpr rfl
abbrev G2:=List aw->PV->PV->Option PV
def rT(K:W.Frag)(g:G2):R2:=λx y H Q=>∃aa ab F d i j k p,g d.h j k=some p/\Rep K aa ab F d i H/\bZ K F j x/\bZ K F k y/\∀v l f,Rep K aa ab f d i l->Gr F f->bZ K f p v->Q v l
abbrev wJ(X:Cx)(f:Value->Value->Sem Value)(g:G2):Prop:=OpR X f (rT X.K g)
def op2(g:G2)(fa fb:Gx PV):Gx PV:=bnd fa λx=>bnd fb λy=>hp λh=>g h x y
def rK(h:tE X aa ab (op2 g fa fb) σ H Q):Y5 (rT X.K g) (tE X aa ab fa) (tE X aa ab fb) σ H Q:=by
 obtain⟨F,f,R,h⟩:=h;refine⟨F,f,R,h.bnd λp v F1 i t j u k l=>⟨F1,i,j,l.bnd λq w F2 d x R2 m b2 r=>?_⟩⟩
 obtain⟨o,e,z⟩:=r.hp;exact⟨aa,ab,F2,d,σ,p,q,o,e,R2,k.mono m,b2,z⟩
def ae2(ho:wJ X (binaryOp op) g)(d:PE X a (tE X aa ab fa))(f:PE X b (tE X aa ab fb)):PE X (.BinOp a op b pos) (tE X aa ab (op2 g fa fb)):=(ZU ho d f).imp λ_ _ _ h=>rK h
def aaA(ho:wJ X (compareOp op) g)(d:PE X a (tE X aa ab fa))(f:PE X b (tE X aa ab fb))(i:behindInMarks op b=false):PE X (.Compare a [op] [b] pos) (tE X aa ab (op2 g fa fb)):=(PL ho d f i).imp λ_ _ _ h=>rK h
def wK:PV->Option Bool | .bl b=>some b | _=>none
def tY{b:Bool}(h:wK p=some b):p=.bl b:=by
 cases p<;>first | (cases h;rfl) | cases h
def toB(f:Gx PV):Gx Bool:=bnd f λp=>lH (wK p)
def toB_imp(h:tT X aa ab (toB fa) σ H Q):tE X aa ab fa σ H λv d=>∃k,v=.bl k/\Q k d:=by
 obtain⟨F,g,R,h⟩:=h;refine⟨F,g,R,h.bnd λp v F1 l d i m f j=>?_⟩
 obtain⟨k,e,z⟩:=j.lH;rw[tY e]at f;exact⟨k,cj.mp f,z k d F1 i (Gr.refl _) rfl⟩
def aaB(ho:wJ X (compareOp op) g)(d:PE X a (tE X aa ab fa))(f:PE X b (tE X aa ab fb))(i:behindInMarks op b=false):PT X (.Compare a [op] [b] pos) (tT X aa ab (toB (op2 g fa fb))) :=
 (PM ho d f i).imp λ_ _ _ h=>rK (toB_imp h)
def chain(g d:G2)(fa fb fc:Gx PV):Gx PV:=bnd fa λx=>bnd fb λy=>bnd (hp λh=>(g h x y).bind wK) λk=>if k=true then bnd fc λz=>hp λh=>d h y z else bg (.bl false)
def wL(h:tE X aa ab (chain g i fa fb fc) σ H Q):Ep (rT X.K g) (rT X.K i) (tE X aa ab fa) (tE X aa ab fb) (tE X aa ab fc) σ H Q:=by
 obtain⟨F,m,R,h⟩:=h;refine⟨F,m,R,h.bnd λp v F1 r H1 x g1 B C=>⟨F1,r,x,C.bnd λq w F2 d H2 R2 D b2 E=>?_⟩⟩
 obtain⟨k,e,z⟩:=At.hp (At.bnd E);obtain⟨o,e1,I⟩:=aZ e;rw[tY I]at e1;refine⟨aa,ab,F2,d,σ,p,q,_,e1,R2,B.mono D,b2,λu J j l f L=>⟨k,cj.mp L,?_⟩⟩
 cases k with
 | true =>
  have z:Tx X aa ab (bZ X.K) F2 d (bnd fc λz=>hp λh=>i h q z) σ Q:=z
  refine⟨j,d,l,(z.mono f λ_ _ y=>y).bnd λt o M N H4 T Y Z h4=>?_⟩
  obtain⟨o,e,z⟩:=h4.hp;exact⟨aa,ab,M,N,σ,q,t,o,e,T,b2.mono (f.trans Y),Z,z⟩
 | false=>exact Tx.bg z _ J j l f (cj.mpr rfl)
def QL(ho:wJ X (compareOp op) g)(f:wJ X (compareOp d) i)(j:PE X a (tE X aa ab fa))(k:PE X b (tE X aa ab fb))(hc:PE X c (tE X aa ab fc))
  (l:lastMarks [op,d] [b,c]=false):PE X (.Compare a [op,d] [b,c] pos) (tE X aa ab (chain g i fa fb fc)):=(Ls ho f j k hc l).imp λ_ _ _ h=>wL h
end
def cS(h:List aw):PV->Option (Kd×List PV)
 | .nd k a=>some (k,a)
 | .ref n=>(h[n]?).bind λc=>if live c=true then some (c.k,c.ps)else none
 | _=>none
def b9{a:Type}{c:Prop} [Decidable c] {x:Option a} {y:a} (h:(if c then x else none)=some y):c/\x=some y:=by
 grind
def aR{a:Type}{c:Prop} [Decidable c] {x y:a} (h:(if c then some x else none)=some y):c/\x=y:=by
 grind
section
variable {K:W.Frag} {aa H:Hp} {ab F:Fz} {st:cL} {σ:St}
def Rep.at(R:Rep K aa ab F st σ H){p:PV}{k:Kd}{ps:List PV}{v:V}(e:cS st.h p=some (k,ps))(b:bZ K F p v):∃a vs,v=.ref a/\lQ K F.F H a false k vs/\aG K F ps vs:=by
 cases p with
 | nd t u =>
  cases e;obtain⟨a,vs,d,f,g⟩:=jJ.mp b;exact⟨a,vs,d,f.to (cV.refl _) (λo q=>R.sub _ _ q) id,g⟩
 | ref n =>
  obtain⟨c,e1,i⟩:=aZ e;obtain⟨j,m⟩:=aR i;cases m;obtain⟨a,d,f⟩:=dQ.mp b;obtain⟨_,vs,g,r⟩:=R.c.cell n c a e1 d j;exact⟨a,vs,f,g.to (cV.refl _) (λo q=>q) (λz=>by cases z),r⟩
 | _=>cases e
def EO(h:List aw)(p:PV):Option (List PV):=match cS h p with
 | some (.aq,a)=>some a
 | some (.lst,a)=>some a
 | _=>none
def Rep.seq(R:Rep K aa ab F st σ H){p:PV}{ps:List PV}{v:V}(e:EO st.h p=some ps)(b:bZ K F p v):∃a vs,v=.ref a/\(iG K H a vs\/lB K H a vs)/\aG K F ps vs:=by
 unfold EO at e;split at e
 ·rename_i z;cases e;obtain⟨a,vs,d,f,g⟩:=R.at z b;exact⟨a,vs,d,.inl f.2,g⟩
 ·rename_i z;cases e;obtain⟨a,vs,d,f,g⟩:=R.at z b;exact⟨a,vs,d,.inr f,g⟩
 ·cases e
def qZ(h:List aw):PV->Option Bool
 | .bM=>some false
 | .bl b=>some b
 | .int i=>some (i != 0)
 | p=>match cS h p with
  | some (.aq,a)=>some !a.isEmpty
  | some (.lst,a)=>some !a.isEmpty
  | some (.fJ false _,a)=>some !a.isEmpty
  | _=>none
def tZ{ps:List PV}{vs:List V}(h:aG K F ps vs):ps.isEmpty=vs.isEmpty:=by
 cases ps with
 | nil=>rw[h.c5];rfl
 | cons p ps=>obtain⟨v,r,rfl,_,_⟩:=h.cG;rfl
def Rep.tru(R:Rep K aa ab F st σ H){p:PV}{k:Bool}{v:V}(e:qZ st.h p=some k)(b:bZ K F p v):PN K v H k:=by
 have more:(match cS st.h p with
  | some (.aq,d)=>some !d.isEmpty
  | some (.lst,d)=>some !d.isEmpty
  | some (.fJ false _,d)=>some !d.isEmpty
  | _=>none)=some k->PN K v H k:=λe=>by
  split at e
  ·rename_i z;cases e;obtain⟨a,j,rfl,f,g⟩:=R.at z b;exact .inr (.inl ⟨j,f.2,by rw[tZ g]⟩)
  ·rename_i z;cases e;obtain⟨a,j,rfl,f,g⟩:=R.at z b;exact .inl ⟨j,lB.sq f,by rw[tZ g]⟩
  ·rename_i z;cases e;obtain⟨a,j,rfl,⟨m,f,_,o⟩,g⟩:=R.at z b;refine .inr (.inr ⟨m,f,?_⟩);rw[tZ g,<-o,List.isEmpty_map]
  ·cases e
 cases p with
 | bM=>rw[dA.mp b];exact(cD e).symm
 | bl c=>rw[cj.mp b];exact(cD e).symm
 | int i=>rw[aH.mp b];exact(cD e).symm
 | str x=>exact more e
 | ref n=>exact more e
 | fn x=>exact more e
 | nd k d=>exact more e
end
section
variable {X:Cx} {aa:Hp} {ab:Fz} {a b c e:Expr} {es rest:List Expr} {fa fb fc:Gx PV} {ga gb:Gx Bool} {ts:Gx (List PV)} {pos:Pos}
def iu(f:Gx PV):Gx Bool:=bnd f λp=>hp λh=>qZ h p
def aaC(h:PE X e (tE X aa ab fa))(he:∀d,isTrue e X.env d=(do let v <-d;standAt e.pos;holding [v] (truthy v))):PT X e (tT X aa ab (iu fa)) :=
 (Lw h he).imp λσ H Q ⟨F,st,R,h⟩=>⟨F,st,R,h.bnd λp v F1 l g f m i j=>by
  obtain⟨k,e,z⟩:=j.hp;exact⟨k,f.tru e i,z k g F1 f (Gr.refl _) rfl⟩⟩
def QM{d f:CmpOp}{g i:G2}(ho:wJ X (compareOp d) g)(j:wJ X (compareOp f) i)(k:PE X a (tE X aa ab fa))(l:PE X b (tE X aa ab fb))(hc:PE X c (tE X aa ab fc))
  (m:lastMarks [d,f] [b,c]=false):PT X (.Compare a [d,f] [b,c] pos) (tT X aa ab (toB (chain g i fa fb fc))):=(Lu ho j k l hc m).imp λ_ _ _ h=>wL (toB_imp h)
def eH{d:Type}(h:Gx Bool)(f g:Gx d):Gx d:=bnd h λx=>if x=true then f else g
def yU{k l:Type}{i:Fz->k->l->Prop}{f g:Gx k}{d:St}{H:Hp}{Q:l->Hp->Prop}(h:tX X aa ab i (eH ga f g) d H Q):tT X aa ab ga d H λc j=>if c=true then tX X aa ab i f d j Q else tX X aa ab i g d j Q:=by
 obtain⟨F,q,R,h⟩:=h;refine⟨F,q,R,h.bnd λx y F1 m j o t r p=>?_⟩
 cases r;cases x with
 | true=>exact⟨F1,m,o,p⟩
 | false=>exact⟨F1,m,o,p⟩
def yV{f d:Type}{g:Fz->f->d->Prop}{a:f}{b:d}{i:St}{H:Hp}{Q:d->Hp->Prop}(h:tX X aa ab g (bg a) i H Q)(j:∀F,g F a b):Q b H:=by
 obtain⟨F,k,R,h⟩:=h;exact h.bg b H F R (Gr.refl _) (j F)
def BB{P d Q f:Prop}{c:Bool}(h:if c=true then P else Q)(h1:P->d)(g:Q->f):if c=true then d else f:=by
 grind
def GP{d g:Type}{j:Fz->d->g->Prop}{f:Gx d}{k:St}{H:Hp}{Q l:g->Hp->Prop}(h:tX X aa ab j f k H Q)(i:∀b H',Q b H'->l b H'):tX X aa ab j f k H l:=let ⟨F,st,R,h⟩:=h;⟨F,st,R,h.mono (Gr.refl _) i⟩
def aaD(d:PT X a (tT X aa ab ga))(f:PW X (.BoolOp .And (b::rest) pos) (tT X aa ab gb)):PW X (.BoolOp .And (a::b::rest) pos) (tT X aa ab (eH ga gb (bg false))) :=
 (Vs d f).imp λg H Q h=>GP (yU h) λ_ _ z=>BB z id λz=>yV z λ_=>rfl
def ae3(d:PT X a (tT X aa ab ga))(f:PW X (.BoolOp .Or (b::rest) pos) (tT X aa ab gb)):PW X (.BoolOp .Or (a::b::rest) pos) (tT X aa ab (eH ga (bg true) gb)) :=
 (ZJ d f).imp λg H Q h=>GP (yU h) λ_ _ z=>BB z (λz=>yV z λ_=>rfl) id
def ER(f:Gx Bool):Gx Bool:=bnd f λx=>bg !x
def aaE(d:PT X a (tT X aa ab ga)):PT X (.UnaryOp .Not a pos) (tT X aa ab (ER ga)):=(Vt d).imp λσ H Q ⟨F,st,R,h⟩=>⟨F,st,R,h.bnd λx y F1 k f g l i j=>by
 cases i;exact j.bg _ f F1 g (Gr.refl _) rfl⟩
def IY(fa fb:Gx PV):Gx PV:=bnd fa λx=>bnd (hp λh=>qZ h x) λk=>if k=true then fb else bg x
def orG(fa fb:Gx PV):Gx PV:=bnd fa λx=>bnd (hp λh=>qZ h x) λk=>if k=true then bg x else fb
def L4{f g:PV->Gx PV}{m:List (Addr×Obj)}{s:Shared}{d:St}{H:Hp}{Q:VK}(u:PE X a (tE X aa ab fa))(I:Inv X m d H s)
  (h:tE X aa ab (bnd fa λx=>bnd (hp λh=>qZ h x) λk=>if k=true then f x else g x) d H Q) :
  wpAny (model X.prog X.w) X.A (eval a X.env) (λv s1=>wpAny (model X.prog X.w) X.A (truthy v) (λk s2=>∃p l F1 i j,Inv X m d j s2/\RelV l v/\Rep X.K aa ab F1 i d j/\bZ X.K F1 p l/\Tx X aa ab (bZ X.K) F1 i (if k=true then f p else g p) d Q) X.xe s1) X.xe s:=by
 obtain⟨F,y,R,h⟩:=h;refine thn (u m s d H (λv j=>∃F1 i p,Rep X.K aa ab F1 i d j/\bZ X.K F1 p v/\Tx X aa ab (bZ X.K) F1 i (bnd (hp λh=>qZ h p) λk=>if k=true then f p else g p) d Q) I
  ⟨F,y,R,h.bnd λp v F1 i j o N q r=>⟨F1,i,p,o,q,r⟩⟩) λv s1 ⟨l,j,B,t,F1,i,p,o,q,r⟩=>?_
 obtain⟨k,e,z⟩:=At.hp (At.bnd r);exact thn (Lv m s1 d j l v (λC D=>C=k/\D=j) B t ⟨k,o.tru e q,rfl,rfl⟩) <| by
  rintro c s2 ⟨E,J,L,M⟩
  subst L M;exact⟨p,l,F1,i,E,J,t,o,q,z⟩
def ae4(g:PE X a (tE X aa ab fa))(i:PE X (.BoolOp .Or (b::rest) pos) (tE X aa ab fb)):PE X (.BoolOp .Or (a::b::rest) pos) (tE X aa ab (orG fa fb)):=λj s l H Q I h =>
 BoolOp_or (thn (L4 g I h) λv t z=>thn z <| by
  rintro k s2 ⟨p,m,F1,o,H1,d,q,f,r,z⟩
  cases k with
  | true=>exact⟨m,H1,d,q,Tx.bg (z) _ H1 F1 f (Gr.refl _) r⟩
  | false=>exact i j s2 l H1 Q d ⟨F1,o,f,z⟩)
def aaF(g:PE X a (tE X aa ab fa))(i:PE X (.BoolOp .And (b::rest) pos) (tE X aa ab fb)):PE X (.BoolOp .And (a::b::rest) pos) (tE X aa ab (IY fa fb)):=λj s l H Q I h =>
 BoolOp_and (thn (L4 g I h) λv t z=>thn z <| by
  rintro k s2 ⟨p,m,F1,o,H1,d,q,f,r,z⟩
  cases k with
  | false=>exact⟨m,H1,d,q,Tx.bg (z) _ H1 F1 f (Gr.refl _) r⟩
  | true=>exact i j s2 l H1 Q d ⟨F1,o,f,z⟩)
def QN(fa:Gx PV):Gx PV:=bnd (toB fa) λx=>bg (.bl !x)
def aaG(d:PE X a (tE X aa ab fa)):PE X (.UnaryOp .Not a pos) (tE X aa ab (QN fa)):=(Vu d).imp λσ H Q ⟨F,st,R,h⟩ =>
 toB_imp ⟨F,st,R,h.bnd λx y F1 k f g l i j=>by
  cases i;exact j.bg _ f F1 g (Gr.refl _) (cj.mpr rfl)⟩
def ae5(hc:PT X c (tT X aa ab ga))(d:PE X a (tE X aa ab fa))(f:PE X b (tE X aa ab fb)):PE X (.IfExp c a b pos) (tE X aa ab (eH ga fa fb)):=(Lf hc d f).imp λ_ _ _ h=>yU h
def ay(f:Gx PV)(g:Gx (List PV)):Gx (List PV):=bnd f λx=>bnd g λd=>bg (x::d)
def aaH:PA X [] (tA X aa ab (bg [])):=tF.imp λd H Q h=>yV h λ_=>.nil
def Wh(d:PE X e (tE X aa ab fa))(f:PA X es (tA X aa ab ts))(g:starEach (e::es) X.env=(false,eval e X.env)::starEach es X.env:=by rfl):PA X (e::es) (tA X aa ab (ay fa ts)) :=
 (jN d f g).imp (by rintro σ H Q ⟨F,st,R,h⟩;exact⟨F,st,R,h.bnd λp v F1 i t j u k l=>⟨F1,i,j,l.bnd λw x F2 m o R2 q b2 r=>r.bg _ o F2 R2 (Gr.refl _) (.cons (k.mono q) b2)⟩⟩)
noncomputable def gu:Nat:=4000000
def gh{n:Nat}(h:n<=gu):n<=sizeLine:=bA h (by decide)
def small(ps:List PV)(p:PV):Option PV:=if ps.length<=gu then some p else none
def mX(k:Kd)(ts:Gx (List PV)):Gx PV:=bnd ts λd=>lH (small d (.nd k d))
def aaI{i}(h:PA X es (tA X aa ab ts)):PE X (.Tuple es i pos) (tE X aa ab (mX .aq ts)):=(VT h).imp λσ H Q ⟨F,st,R,h⟩=>⟨F,st,R,h.bnd λo d F1 q r j t f k=>by
 obtain⟨p,e,z⟩:=k.lH;obtain⟨l,rfl⟩:=aR e;refine⟨gh (by rw[<-f.length];exact l),λa m=>?_⟩
 obtain⟨R2,g⟩:=j.laid (.aq d) m;exact z _ _ _ R2 g (cR.mpr ⟨a,d,rfl,iG.of aF,f.mono g⟩)⟩
def aaJ(h:PA X es (tA X aa ab ts)):PE X (.List es pos) (tE X aa ab (mX .lst ts)):=(Ly h).imp λσ H Q ⟨F,st,R,h⟩=>⟨F,st,R,h.bnd λm d F1 o q i r f j=>by
 obtain⟨p,e,z⟩:=j.lH;obtain⟨k,rfl⟩:=aR e;refine⟨gh (by rw[<-f.length];exact k),λa l=>?_⟩
 obtain⟨R2,g⟩:=i.laid (.lst d) l;exact z _ _ _ R2 g (gH.mpr ⟨a,d,rfl,lB.of aF,f.mono g⟩)⟩
noncomputable def mY(c:aw):Gx PV:=λd=>some (.ok (.ref d.h.length),⟨d.ρ,d.h++[c]⟩)
def Tx.mY{c:aw}{F:Fz}{st:cL}{d:St}{H:Hp}{Q:VK}{p:Addr}{o:HO}{vs:List V}(h:Tx X aa ab (bZ X.K) F st (mY c) d Q)(R:Rep X.K aa ab F st d H)(hp:H p=none)
  (f:lQ X.K F.F (cC H p o) p true c.k vs) (i:aG X.K F c.ps vs):Q (.ref p) (cC H p o):=by
 obtain⟨r,j,m⟩:=h;cases j;obtain⟨C,g,q⟩:=R.c.alloc hp f i;exact m _ _ _ ⟨C,R.l.mono g⟩ g (dQ.mpr ⟨p,q,rfl⟩)
def yW(ts:Gx (List PV)):Gx PV:=bnd ts λd=>bnd (lH (small d .bM)) λ_=>mY ⟨.lst,d⟩
def Wi(h:PA X es (tA X aa ab ts)):PE X (.List es pos) (tE X aa ab (yW ts)):=(Ly h).imp λσ H Q ⟨F,st,R,h⟩=>⟨F,st,R,h.bnd λk l F1 m o f q d g=>by
 obtain⟨p,e,z⟩:=At.lH (At.bnd g);obtain⟨i,rfl⟩:=aR e;exact⟨gh (by rw[<-d.length];exact i),λa j=>Tx.mY z f j aF d⟩⟩
end
inductive dM where
 | nx | bk | ct | rt (p:PV)
def BC(X:Cx)(d:Hp)(e F:Fz)(D:vn):dM->cL->Prop
 | .nx,st=>∀a c b,Rep X.K d e a st c b->Gr F a->D.nx c b
 | .bk,st=>∀a c b,Rep X.K d e a st c b->Gr F a->D.bk c b
 | .ct,st=>∀a c b,Rep X.K d e a st c b->Gr F a->D.ct c b
 | .rt p,st=>∀v a b,lG X.K d e a st.h b->Gr F a->bZ X.K a p v->D.rt v b
def Sa(X:Cx)(a:Hp)(b F:Fz)(D:vn)(st:cL)(f:Gx dM):Prop:=At X a b F st f (BC X a b F D)
def tS(X:Cx)(a:Hp)(b:Fz)(f:Gx dM):TS:=λD d H=>∃F c,Rep X.K a b F c d H/\Sa X a b F D c f
section
variable {X:Cx} {aa:Hp} {ab F F1:Fz} {D:vn} {st:cL} {α β:Type}
theorem BC.mono(g:Gr F F1):∀(o:dM) (st:cL),BC X aa ab F D o st->BC X aa ab F1 D o st
 | .nx,_,h=>λa c b R z=>h a c b R (g.trans z)
 | .bk,_,h=>λa c b R z=>h a c b R (g.trans z)
 | .ct,_,h=>λa c b R z=>h a c b R (g.trans z)
 | .rt _,_,h=>λv a b R z=>h v a b R (g.trans z)
def Sa.mono(h:Sa X aa ab F D st f)(g:Gr F F1):Sa X aa ab F1 D st f:=At.imp h g (BC.mono g)
def Sa.bnd(h:Sa X aa ab F D st (bnd f k))
  (i:∀a b F1 c d,Rep X.K aa ab F1 c σ d->Gr F F1->g F1 a b->Sa X aa ab F1 D c (k a)->Q b d):Tx X aa ab g F st f σ Q :=
 At.imp (At.bnd h) (Gr.refl F) λa c q b d F1 j e l=>i a b F1 c d j e l (Sa.mono q e)
end
section
variable {X:Cx} {aa:Hp} {ab:Fz} {a b c e tg iter:Expr} {es:List Expr} {fe:Gx PV} {gc:Gx Bool} {pos:Pos} {s:Stmt} {ss body:List Stmt} {f g fb:Gx dM}
def onK(g:Gx dM):dM->Gx dM
 | .nx=>g
 | .bk=>bg .bk
 | .ct=>bg .ct
 | .rt p=>bg (.rt p)
def eS(f g:Gx dM):Gx dM:=bnd f (onK g)
def Wj:PSs X [] (tS X aa ab (bg .nx)):=Pq.imp (by rintro D σ H ⟨F,st,R,h⟩;exact At.bg h F σ H R (Gr.refl F))
def QO(h1:PS X s (tS X aa ab f))(k:PSs X ss (tS X aa ab g)):PSs X (s::ss) (tS X aa ab (eS f g)):=(Lg h1 k).imp λD σ H ⟨F,st,R,h⟩ =>
 ⟨F,st,R,At.imp (At.bnd h) (Gr.refl F) λo l q=>match o,q with
  | .nx,q=>λF1 t u m r=>⟨F1,l,m,Sa.mono q r⟩
  | .bk,q=>λd j i=>At.bg q d j i
  | .ct,q=>λd j i=>At.bg q d j i
  | .rt p,q=>λv d i=>At.bg q v d i⟩
def Wk(h1:PS X s (tS X aa ab f)):PSs X [s] (tS X aa ab f):=Pr h1
def Wl:PS X (.Pass pos) (tS X aa ab (bg .nx)):=Pt.imp (by rintro D σ H ⟨F,st,R,h⟩;exact At.bg h F σ H R (Gr.refl F))
def QP:PS X (.Break pos) (tS X aa ab (bg .bk)):=Lh.imp (by rintro D σ H ⟨F,st,R,h⟩;exact At.bg h F σ H R (Gr.refl F))
def Wm:PS X (.Continue pos) (tS X aa ab (bg .ct)):=Bb.imp (by rintro D σ H ⟨F,st,R,h⟩;exact At.bg h F σ H R (Gr.refl F))
def retS(fe:Gx PV):Gx dM:=bnd fe λp=>bg (.rt p)
def aaK(he:PE X e (tE X aa ab fe)):PS X (.Return (some e) pos) (tS X aa ab (retS fe)):=(Vw he).imp (by rintro D σ H ⟨F,st,R,h⟩;exact⟨F,st,R,h.bnd λp v F1 l d i m j k=>At.bg k v F1 d i.c (Gr.refl _) j⟩)
def Wn:PS X (.Return none pos) (tS X aa ab (bg (.rt .bM))):=Pw.imp (by rintro D σ H ⟨F,st,R,h⟩;exact At.bg h _ F H R.c (Gr.refl _) (dA.mpr rfl))
def ae6(hc:PT X c (tT X aa ab gc))(k:PSs X p (tS X aa ab f))(l:PSs X r (tS X aa ab g)):PS X (.If c p r pos) (tS X aa ab (eH gc f g)) :=
 (ZO hc k l).imp λD σ H ⟨F,st,R,h⟩=>⟨F,st,R,h.bnd λx y F1 d o i q m j=>by
  cases m;cases x with
  | true=>exact⟨F1,d,i,j⟩
  | false=>exact⟨F1,d,i,j⟩⟩
def iw(fe:Gx PV):Gx dM:=bnd fe λ_=>bg .nx
def Wo(he:PE X e (tE X aa ab fe))(d:swapsWith e none pos.line X.env=pure false:=by rfl):PS X (.Expr e pos) (tS X aa ab (iw fe)):=(Pu he d).imp λD σ H ⟨F,st,R,h⟩ =>
 ⟨F,st,R,h.bnd λp v F1 l i j m o k=>At.bg k F1 σ i j (Gr.refl _)⟩
abbrev Tg:=PV->cL->Option cL
abbrev Zb:=List PV->cL->Option cL
def tG(K:W.Frag)(aa:Hp)(ab:Fz)(g:Tg):TG:=λv l H Q=>∃F d p h,Rep K aa ab F d l H/\bZ K F p v/\g p d=some h/\∀i j k,Rep K aa ab k h i j->Gr F k->Q i j
def tGs(K:W.Frag)(aa:Hp)(ab:Fz)(g:Zb):Vx:=λm o H Q=>∃F d h i,Rep K aa ab F d o H/\aG K F h m/\g h d=some i/\∀j k l,Rep K aa ab l i j k->Gr F l->Q j k
noncomputable def aW(i:Nat):Tg:=λp d=>if i<d.ρ.length then some ⟨d.ρ.set i (some p),d.h⟩else none
def Lc.set{K:W.Frag}(L:Lc K F ρ σ)(d:i<ρ.length)(k:bZ K F p v):Lc K F (ρ.set i (some p)) (σ.set i (some v)) where
 av:=λj q e=>by
  by_cases h:i=j
  ·subst h;rw[px d]at e;cases e;exact⟨v,px (by rw[<-L.len];exact d),k⟩
  ·rw[kF h]at e;rw[kF h];exact L.av j q e
 len:=by rw[sO,sO];exact L.len
def Wq(i:Nat)(h:PG X (.Name x pos) (gName i)):PG X (.Name x pos) (tG X.K aa ab (aW i)):=h.imp <| by
 rintro v σ H Q ⟨F,st,p,k,R,d,hf,q⟩
 obtain⟨j,rfl⟩:=aR hf;exact q _ _ _ ⟨R.c,R.l.set j d⟩ (Gr.refl F)
def q8:Zb:=λd h=>match d with | []=>some h | _=>none
def dX(g:Tg)(r:Zb):Zb:=λd h=>match d with | p::d=>(g p h).bind λi=>r d i | []=>none
def Wr:PGs X [] (tGs X.K aa ab q8):=Py.imp <| by
 rintro i σ H Q ⟨F,st,d,j,R,h,hf,q⟩
 cases d with
 | nil=>cases hf;exact⟨h.c5,q _ _ _ R (Gr.refl F)⟩
 | cons _ _=>cases hf
def QQ(h1:PG X e (tG X.K aa ab t))(j:PGs X es (tGs X.K aa ab u))(k:(assignEach (e::es) X.env).map (·.2)=assign e X.env::(assignEach es X.env).map (·.2):=by rfl) :
  PGs X (e::es) (tGs X.K aa ab (dX t u)):=(Lk h1 j k).imp <| by
 rintro D σ H Q ⟨F,st,d,l,R,m,hf,q⟩
 cases d with
 | nil=>cases hf
 | cons p d =>
  obtain⟨v,r,rfl,o,b2⟩:=m.cG;obtain⟨h,e1,w⟩:=aZ hf;exact⟨v,r,rfl,F,st,p,h,R,o,e1,λE I F1 x i=>⟨F1,h,d,l,x,b2.mono i,w,λy B F2 R2 C=>q y B F2 R2 (i.trans C)⟩⟩
noncomputable def jP(n:Nat)(t:Zb):Tg:=λp h=>match p with | .nd .aq d=>if d.length=n then t d h else none | _=>none
def aaM(hc:X.calm=true)(h:PGs X es (tGs X.K aa ab t))(j:(assignEach es X.env).length=n:=by rfl)(l:(assignEach es X.env).findIdx? (·.1)=none:=by rfl) :
  PG X (.Tuple es k pos) (tG X.K aa ab (jP n t)):=(Vy hc h j l).imp <| by
 rintro v σ H Q ⟨F,st,p,m,R,o,d,q⟩
 unfold jP at d;split at d
 ·rename_i r;obtain⟨u,d⟩:=b9 d;obtain⟨a,w,rfl,x,i⟩:=cR.mp o;exact⟨a,w,rfl,bD R.sub x,by rw[<-i.length];exact u,F,st,r,m,R,i,d,q⟩
 ·cases d
noncomputable def stp(g:cL->Option cL):Gx dM:=λd=>(g d).map λh=>(.ok .nx,h)
def Sa.stp{st:cL}{g:cL->Option cL}(h:Sa X aa ab F D st (stp g)):∃d,g st=some d/\∀F' i H',Rep X.K aa ab F' d i H'->Gr F F'->D.nx i H':=by
 obtain⟨r,j,k⟩:=h;obtain⟨d,e1,l⟩:=bt j;subst l;exact⟨d,e1,k⟩
def di(fe:Gx PV)(g:Tg):Gx dM:=bnd fe λp=>stp (g p)
def QR{g:Tg}(h:tS X aa ab (di fe g) D σ H):Pz (tE X aa ab fe) (tG X.K aa ab g) D σ H:=by
 obtain⟨F,d,R,h⟩:=h;refine⟨F,d,R,h.bnd λp v F1 i t j u k l=>?_⟩
 obtain⟨m,e,z⟩:=l.stp;exact⟨F1,i,p,m,j,k,e,λo q F2 R2 r=>z F2 o q R2 r⟩
def aaN{g:Tg}(he:PE X e (tE X aa ab fe))(d:PG X tg (tG X.K aa ab g))(i:swapsWithSole [tg] e pos.line X.env=pure false:=by rfl)(hw:swappedStores [tg] e X.env=pure none:=by rfl)
  (h1:(assignEach [tg] X.env).map (·.2)=[assign tg X.env]:=by rfl):PS X (.Assign [tg] e pos) (tS X aa ab (di fe g)):=(Ll he d i hw h1).imp λ_ _ _ h=>QR h
def Walk(K:W.Frag)(F:Fz)(ps:List PV)(J:It):Prop:=∀(aa:Hp) (ab d:Fz) (st:cL) (σ:St) (H:Hp),Rep K aa ab d st σ H->Gr F d->∀i:Nat,
 (∀p,ps[i]?=some p->J.go i H/\∀x j,J.yld i H x j->∃h,Rep K aa ab h st σ j/\Gr d h/\bZ K h p x)/\(ps[i]?=none->J.stop i H)
abbrev tI(X:Cx)(aa:Hp)(ab:Fz)(f:Gx (List PV)):TI:=tX X aa ab (Walk X.K) f
def wM(r:Gx dM):dM->Gx dM
 | .nx=>r
 | .ct=>r
 | .bk=>bg .nx
 | .rt p=>bg (.rt p)
def c9(g:Tg)(body:Gx dM):List PV->Gx dM
 | []=>bg .nx
 | p::d=>bnd (stp (g p)) λ_=>bnd body (wM (c9 g body d))
def Sa.mT{st:cL}(N:St->Hp->Prop)(hN:∀F1 j d i,Rep X.K aa ab F1 j d i->Gr F F1->Sa X aa ab F1 D j r->N d i)(h:Sa X aa ab F D st (U.bnd fb (wM r))):Sa X aa ab F {D with nx:=N,ct:=N,bk:=D.nx} st fb :=
 At.imp (At.bnd h) (Gr.refl F) λo j q=>match o,q with
  | .nx,q=>λF1 d i l k=>hN F1 j d i l k (Sa.mono q k)
  | .ct,q=>λF1 d i l k=>hN F1 j d i l k (Sa.mono q k)
  | .bk,q=>λm u t=>At.bg q m u t
  | .rt p,q=>λv m t=>At.bg q v m t
def jQ(gc:Gx Bool)(body:Gx dM):Nat->Gx dM
 | 0=>λ_=>none
 | n+1=>bnd gc λc=>if c=true then bnd body (wM (jQ gc body n))else bg .nx
def QS(n:Nat)(hp:PassesOwn (model X.prog X.w) X.A X.env X.xe)(hc:PT X c (tT X aa ab gc))(v:PSs X body (tS X aa ab fb)):PS X (.While c body [] pos) (tS X aa ab (jQ gc fb n)) :=
 (Lm hp hc v).imp <| by
 rintro D σ H ⟨F,st,R,h⟩
 refine⟨λm k l=>∃i j,Rep X.K aa ab i j k l/\Sa X aa ab i D j (jQ gc fb m),⟨n,F,st,R,h⟩,λm k l ⟨i,j,B,o⟩=>?_⟩
 cases m with
 | zero=>obtain⟨r,e,_⟩:=o;cases e
 | succ m =>
  refine⟨i,j,B,Sa.bnd o λx y F1 C E p Q I q=>?_⟩
  cases I;cases x with
  | false=>exact At.bg q F1 k E p (Gr.refl _)
  | true=>exact⟨λt u=>∃F2 d,Rep X.K aa ab F2 d t u/\Sa X aa ab F2 D d (jQ gc fb m),λt u J=>⟨m,sN m,J⟩,F1,C,p,Sa.mT _ (λL M T Y N Z z=>⟨L,M,N,z⟩) q⟩
end
def _root_.L2.Inv.GR(I:Inv X c σ H s)(h:lB X.K H a xs):∃(b:List Value) (n:Nat),Vals xs b/\s.heap.get? a=some {cls:=.type "list",data:=.seq b.toArray n}/\xs.length<=sizeLine:=by
 rcases h with h | ⟨b,n,e,z,r⟩
 ·obtain⟨z,b,n,r,e⟩:=h.ok I.hok;exact⟨b,n,r,e,z⟩
 ·exact⟨b,n,r,I.tj a _ e,by rw[r.length];exact z⟩
def sizeOk(n:Nat)(p:PV):Option PV:=if n<=gu then some p else none
def kY(h:sizeOk n p=some q):n<=sizeLine/\p=q:=by
 obtain⟨a,b⟩:=aR h;exact⟨gh a,b⟩
def BD(h:List aw)(p:PV):Option (List PV):=match cS h p with | some (.lst,a)=>some a | _=>none
def ig(e:BD h p=some ps):cS h p=some (.lst,ps):=by
 unfold BD at e;split at e
 ·grind
 ·cases e
def fj:G2:=λh p q=>match p,q with
 | .int i,.int j=>some (.int (i+j))
 | .str x,.str y=>sizeOk (x.length+y.length) (.str (x++y))
 | .nd .aq a,.nd .aq b=>sizeOk (a.length+b.length) (.aq (a++b))
 | p,q=>(BD h p).bind λa=>(BD h q).bind λb=>sizeOk (a.length+b.length) (.lst (a++b))
noncomputable def t7(c:Int->Int->Bool)(f:Int->Int->PV):G2:=λ_ p q=>match p,q with
 | .int i,.int j=>if c i j=true then some (f i j)else none
 | _,_=>none
def GS:Int:=18446744073709551616
def aaO:G2:=t7 (λ_ _=>true) λi j=>.int (i-j)
def vx:G2:=t7 (λi j=>decide ((-GS<i/\i<GS)\/(-GS<j/\j<GS))) λi j=>.int (i*j)
def iL:G2:=t7 (λ_ j=>decide (0<j/\j<1073741824)) λi j=>.int (i/j)
def gB:G2:=t7 (λ_ j=>decide (0<j)) λi j=>.int (i%j)
def QU:G2:=t7 (λi j=>decide (0<=j/\j<=1000/\i.natAbs<1000)) λi j=>.int (i^j.toNat)
def L5:G2:=t7 (λ_ _=>true) λi j=>.bl (decide (i<j))
def leO:G2:=t7 (λ_ _=>true) λi j=>.bl (decide (i<=j))
def geO:G2:=t7 (λ_ _=>true) λi j=>.bl (decide (j<=i))
section
variable {X:Cx}
def L6{ws:List Value}(ht:IsTup s.heap t ([]:List Value).toArray)(h:IsTup s.heap b ws.toArray)(h1:Q (.ref b) s):wpAny (model prog w) A (binaryOp .Add (.ref t) (.ref b)) Q E s:=by
 obtain⟨⟨i,j,e,k⟩,ho,hc,n,hd⟩:=id ht;obtain⟨⟨l,c,o,d⟩,a,f,m,g⟩:=id h;simp only at hc hd f g;subst hc hd f g;exact concat_meets ⟨_,ho,rfl⟩ ⟨_,a,rfl⟩ D4 seq_tuple_add DN DK (DJ _ _) (tuple_addW0 t b _ ws.toArray n m j c k d (by simp)) ⟨ho,a,h1⟩
def QV:wJ X (binaryOp .Add) fj:=by
 rintro w s σ H x y v u Q I d f ⟨aa,ab,F,st,τ,pa,pb,p,e,R,l,m,k⟩
 unfold fj at e;split at e
 ·cases e;rw[aH.mp l]at d;rw[aH.mp m]at f;exact VH w s σ H _ _ v u Q I d f ⟨_,_,rfl,rfl,k _ H F R (Gr.refl F) (aH.mpr rfl)⟩
 ·obtain⟨i,rfl⟩:=kY e;rw[cZ.mp l]at d;rw[cZ.mp m]at f;exact Es w s σ H _ _ v u Q I d f ⟨_,_,rfl,rfl,i,k _ H F R (Gr.refl F) (cZ.mpr rfl)⟩
 ·rename_i L N;obtain⟨i,rfl⟩:=kY e;obtain⟨a,h,rfl,o,c⟩:=cR.mp l;obtain⟨b,ws,rfl,t,g⟩:=cR.mp m;have B:=bD R.sub o;have M:=bD R.sub t;cases L with
  | nil =>
   rw[c.c5]at B;cases d;cases f;obtain⟨C,T,Y,_⟩:=I.tuple B;obtain⟨D,E,Z,_⟩:=I.tuple M;cases T;exact L6 Y Z ⟨.ref b,H,I,rfl,k _ H F R (Gr.refl F) (cR.mpr ⟨b,ws,rfl,t,g⟩)⟩
  | cons x0 xr =>
   refine P9 w s σ H _ _ v u Q I d f ⟨a,b,h,ws,rfl,rfl,B,M,?_,by rw[<-c.length,<-g.length];exact i,λz=>?_,λz q hq=>?_⟩
   ·intro z;have:=c.length;rw[z]at this;cases this
   ·subst z;have hy:=mz g.length;subst hy;rw[eG]at k;exact k _ H F R (Gr.refl F) (cR.mpr ⟨a,h,rfl,o,c⟩)
   ·obtain⟨R2,j⟩:=R.laid (.aq (h++ws)) hq;exact k _ _ _ R2 j (cR.mpr ⟨q,_,rfl,iG.of aF,(c.append g).mono j⟩)
 ·obtain⟨L,e1,e⟩:=aZ e;obtain⟨N,J,e⟩:=aZ e;obtain⟨i,rfl⟩:=kY e;obtain⟨a,h,rfl,o,c⟩:=R.at (ig e1) l;obtain⟨b,ws,rfl,t,g⟩:=R.at (ig J) m;cases d;cases f;obtain⟨C,n,r,e1,z1⟩:=I.GR o;obtain⟨D,n2,E,J,z2⟩:=I.GR t;have hl:=r.length;have Zc:=E.length;have TC:h.length+ws.length<=sizeLine:=by rw[<-c.length,<-g.length];exact i
  refine PySem.P.add_list e1 J ?_ (by grind)
  have ea:C.toArray++D.toArray=(C++D).toArray:=by simp
  rw[ea];obtain⟨R2,j⟩:=R.laid (.lst (h++ws)) I.fresh;exact⟨.ref _,_,I.aeJ (r.append E) (by grind),rfl,k _ _ _ R2 j (gH.mpr ⟨_,_,rfl,lB.of aF,(c.append g).mono j⟩)⟩
def hJ(ho:OpR X f (rI C h))(hc:∀i j,c i j=true->C i j)(d:∀i j F,bZ X.K F (g i j) (h i j)):wJ X f (t7 c g):=by
 rintro l s σ H x y v u Q I a b ⟨r,t,F,st,w,B,D,p,e,R,m,o,k⟩
 unfold t7 at e;split at e
 ·obtain⟨q,rfl⟩:=aR e;rw[aH.mp m]at a;rw[aH.mp o]at b;exact ho l s σ H _ _ v u Q I a b ⟨_,_,rfl,rfl,hc _ _ q,k _ H F R (Gr.refl F) (d _ _ F)⟩
 ·cases e
def BE(ho:OpR X f (PD h)):OpR X f (rI (λ_ _=>True) h):=(by rintro a s σ H x y v u Q I b c ⟨i,j,d,e,_,q⟩;exact ho a s σ H x y v u Q I b c ⟨i,j,d,e,q⟩)
end
def Wu:Operator->Option G2
 | .Add=>some fj
 | .Sub=>some aaO
 | .Mult=>some vx
 | .FloorDiv=>some iL
 | .Mod=>some gB
 | .Pow=>some QU
 | _=>none
def QW(h:Wu op=some g):wJ X (binaryOp op) g:=by
 unfold Wu at h;split at h<;>cases h
 ·exact QV
 ·exact hJ (BE VI) (by grind) λ_ _ _=>aH.mpr rfl
 ·exact hJ VJ (λi j e=>show(-GS<i/\i<GS)\/(-GS<j/\j<GS)from dw e) λ_ _ _=>aH.mpr rfl
 ·exact hJ PH (λ_ j e=>show 0<j/\j<1073741824 from dw e) λ_ _ _=>aH.mpr rfl
 ·exact hJ VL (λ_ _ e=>dw e) λ_ _ _=>aH.mpr rfl
 ·exact hJ VM (λ_ _ e=>let ⟨a,c,b⟩:=dw e;⟨a,by lia,pP b (by decide)⟩) λ_ _ _=>aH.mpr rfl
inductive Tr where
 | bM | bl (b:Bool) | int (i:Int) | str (x:Str) | aq (xs:List Tr) | lst (xs:List Tr)
mutual
def eqT:Tr->Tr->Bool
 | .bM,.bM=>true
 | .bl a,.bl b=>a==b
 | .bl a,.int b=>(if a then 1 else 0)==b
 | .int a,.bl b=>a==(if b then 1 else 0)
 | .int a,.int b=>a==b
 | .str a,.str b=>a==b
 | .aq xs,.aq c=>nW xs c
 | .lst xs,.lst c=>nW xs c
 | _,_=>false
def nW:List Tr->List Tr->Bool
 | [],[]=>true
 | x::xs,y::a=>eqT x y&&nW xs a
 | _,_=>false
end
mutual
def dep:Tr->Nat
 | .aq xs=>lT xs+1
 | .lst xs=>lT xs+1
 | _=>0
def lT:List Tr->Nat
 | []=>0
 | x::xs=>max (dep x) (lT xs)
end
mutual
theorem kZ:∀p:Tr,eqT p p=true
 | .bM=>rfl
 | .bl b=>mJ b
 | .int b=>mJ b
 | .str b=>mJ b
 | .aq xs=>pY xs
 | .lst xs=>pY xs
theorem pY:∀ps:List Tr,nW ps ps=true
 | []=>rfl
 | x::xs=>dY.mpr ⟨kZ x,pY xs⟩
end
theorem nY:∀{xs a:List Tr},xs.length≠a.length->nW xs a=false
 | [],[],h=>absurd rfl h
 | [],_::_,_=>rfl
 | _::_,[],_=>rfl
 | x::xs,y::a,h=>by show(eqT x y&&nW xs a)=false;rw[nY (by simpa using h),Bool.and_false]
noncomputable def t8(xs a:List Tr)(j:Nat):Bool:=match xs[j]?,a[j]? with
 | some x,some y=>eqT x y
 | _,_=>true
theorem nZ:∀{xs a:List Tr},xs.length=a.length->(List.range xs.length).all (t8 xs a)=nW xs a
 | [],[],_=>rfl
 | [],_::_,h=>by cases h
 | _::_,[],h=>by cases h
 | x::xs,y::a,h=>by
  have ih:=nZ (by simpa using h)
  rw[aN,List.range_succ_eq_map,ip,List.all_map];have b:t8 (x::xs) (y::a) 0=eqT x y:=rfl;have e1:(t8 (x::xs) (y::a) ∘ Nat.succ)=t8 xs a:=by
   funext j
   simp[t8,Function.comp]
  rw[b,e1,ih];rfl
def GU(h1:xs.length=m)(b:a.length=n):((List.range (min m n)).all (t8 xs a)&&(m==n))=nW xs a:=by
 subst h1 b;by_cases h:xs.length=a.length
 ·rw[<-h,Nat.min_self,nZ h];simp
 ·rw[nY h];simp[h]
mutual
def dR(s:Shared):Tr->Value->Prop
 | .bM,u=>u=.none
 | .bl b,u=>u=.bool b
 | .int i,u=>∃t,u=.int i t
 | .str x,u=>∃t,u=.str x t
 | .aq d,u=>∃a c,u=.ref a/\s.heap.IsTuple a c.toArray/\cH s d c
 | .lst d,u=>∃a c,u=.ref a/\s.heap.IsList a c.toArray/\cH s d c
def cH(s:Shared):List Tr->List Value->Prop
 | [],us=>us=[]
 | t::a,us=>∃u r,us=u::r/\dR s t u/\cH s a r
end
section
variable {A:Around} {s:Shared}
theorem cH.len:∀{a:List Tr} {us:List Value},cH s a us->a.length=us.length
 | [],_,h=>by simp only[cH]at h;rw[h];rfl
 | _::_,_,h=>by
  simp only[cH]at h;obtain⟨u,r,rfl,_,h⟩:=h;simp[cH.len h]
def lD(h1:s.heap.IsTuple a x)(f:s.heap.IsTuple a y):x=y:=by
 obtain⟨o,e,_,n,d⟩:=h1;obtain⟨g,b,_,h,c⟩:=f;rw[e]at b;cases b;rw[d]at c;cases c;rfl
def nH(h1:s.heap.IsList a x)(f:s.heap.IsList a y):x=y:=by
 obtain⟨o,e,_,n,d⟩:=h1;obtain⟨g,b,_,h,c⟩:=f;rw[e]at b;cases b;rw[d]at c;cases c;rfl
def t9(h1:s.heap.IsTuple a x)(g:s.heap.IsList a y):False:=by
 obtain⟨o,e,c,n,d⟩:=h1;obtain⟨h,b,f,i,j⟩:=g;rw[e]at b;cases b;rw[c]at f;simp at f
mutual
theorem dR.inj:∀{p q:Tr} {u:Value},dR s p u->dR s q u->p=q
 | .bM,q,u,h,c=>by cases q<;>simp_all [dR]
 | .bl b,q,u,h,c=>by cases q<;>simp_all [dR]
 | .int b,q,u,h,c=>by
  simp only[dR]at h;obtain⟨t,rfl⟩:=h;cases q<;>simp_all [dR]
 | .str b,q,u,h,c=>by
  simp only[dR]at h;obtain⟨t,rfl⟩:=h;cases q<;>simp_all [dR]
 | .aq xs,q,u,h,c=>by
  simp only[dR]at h;obtain⟨a,j,rfl,g,k⟩:=h;cases q with
  | aq l =>
   simp only[dR]at c;obtain⟨b,d,e,f,i⟩:=c;cases e;have:=lD g f;have e:j=d:=by simpa using this
   subst e;rw[cH.inj k i]
  | lst l =>
   simp only[dR]at c;obtain⟨b,d,e,f,i⟩:=c;cases e;exact(t9 g f).elim
  | _=>simp[dR]at c
 | .lst xs,q,u,h,c=>by
  simp only[dR]at h;obtain⟨a,j,rfl,g,k⟩:=h;cases q with
  | lst l =>
   simp only[dR]at c;obtain⟨b,d,e,f,i⟩:=c;cases e;have:=nH g f;have e:j=d:=by simpa using this
   subst e;rw[cH.inj k i]
  | aq l =>
   simp only[dR]at c;obtain⟨b,d,e,f,i⟩:=c;cases e;exact(t9 f g).elim
  | _=>simp[dR]at c
theorem cH.inj:∀{ps a:List Tr} {us:List Value},cH s ps us->cH s a us->ps=a
 | [],a,us,h,b=>by
  simp only[cH]at h;subst h;cases a with
  | nil=>rfl
  | cons _ _=>simp[cH]at b
 | p::ps,a,us,h,b=>by
  simp only[cH]at h;obtain⟨u,r,rfl,c,d⟩:=h;cases a with
  | nil=>simp[cH]at b
  | cons q a =>
   simp only[cH]at b;obtain⟨i,j,e,f,g⟩:=b;cases e;rw[dR.inj c f,cH.inj d g]
end
def ud(h:b=c)(r:SeqAt.RcAt A s u w b):SeqAt.RcAt A s u w c:=h▸r
def mZ(h:b = !c)(r:SeqAt.RcNeAt A s u w b):SeqAt.RcNeAt A s u w (!c):=h▸r
def GV(c:∀x t,u≠.float x t)(h:SeqAt.RcAt A s u w b)(d:u=w->b=true):SeqAt.EqAt A s u w b:=λprog v E Q a=>by
 unfold eqBool;refine dZ ?_;refine Ea (λz=>?_) (λ_=>?_)
 ·rw[d (bh z)]at a;exact ag (gz (aj a))
 ·cases u with
  | float x t=>exact absurd rfl (c x t)
  | _=>exact ag (h prog v E _ (mI a))
def dR.TV(h:dR s p u):∀y t,u≠.float y t:=λy t z=>by
 subst z;cases p<;>simp[dR]at h
mutual
theorem yX:∀(p q:Tr) (A:Around) (u w:Value),dR s p u->dR s q w->A.units+dep p<cLine->SeqAt.RcAt A s u w (eqT p q)/\SeqAt.RcNeAt A s u w (!(eqT p q))
 | .bM,q,A,u,w,e,c,f=>by
  have b:A.units<cLine := ‹_›;subst e;cases q with
  | bM=>cases c;exact⟨.none_none,.none_none⟩
  | bl=>cases c;exact⟨(.none_bool _),(.none_bool _)⟩
  | int=>obtain⟨t,rfl⟩:=c;exact⟨(.none_int _ _),(.none_int _ _)⟩
  | str=>obtain⟨t,rfl⟩:=c;exact⟨(.none_str _ _),(.none_str _ _)⟩
  | aq=>obtain⟨a,g,rfl,d,_⟩:=c;exact⟨(.none_tuple d b),(.none_tuple d b)⟩
  | lst=>obtain⟨a,g,rfl,d,_⟩:=c;exact⟨(.none_list d b),(.none_list d b)⟩
 | .bl k,q,A,u,w,e,c,f=>by
  have b:A.units<cLine := ‹_›;subst e;cases q with
  | bM=>cases c;exact⟨(.bool_none _),(.bool_none _)⟩
  | bl=>cases c;exact⟨(.bool_bool _ _),(.bool_bool _ _)⟩
  | int=>obtain⟨t,rfl⟩:=c;exact⟨(.bool_int _ _ _),(.bool_int _ _ _)⟩
  | str=>obtain⟨t,rfl⟩:=c;exact⟨(.bool_str _ _ _),(.bool_str _ _ _)⟩
  | aq=>obtain⟨a,g,rfl,d,_⟩:=c;exact⟨(.bool_tuple _ d b),(.bool_tuple _ d b)⟩
  | lst=>obtain⟨a,g,rfl,d,_⟩:=c;exact⟨(.bool_list _ d b),(.bool_list _ d b)⟩
 | .int k,q,A,u,w,e,c,f=>by
  have b:A.units<cLine := ‹_›;obtain⟨B,rfl⟩:=e;cases q with
  | bM=>cases c;exact⟨(.int_none _ _),(.int_none _ _)⟩
  | bl=>cases c;exact⟨(.int_bool _ _ _),(.int_bool _ _ _)⟩
  | int=>obtain⟨t,rfl⟩:=c;exact⟨(.int_int _ _ _ _),(.int_int _ _ _ _)⟩
  | str=>obtain⟨t,rfl⟩:=c;exact⟨(.int_str _ _ _ _),(.int_str _ _ _ _)⟩
  | aq=>obtain⟨a,g,rfl,d,_⟩:=c;exact⟨(.int_tuple _ _ d b),(.int_tuple _ _ d b)⟩
  | lst=>obtain⟨a,g,rfl,d,_⟩:=c;exact⟨(.int_list _ _ d b),(.int_list _ _ d b)⟩
 | .str k,q,A,u,w,e,c,f=>by
  have b:A.units<cLine := ‹_›;obtain⟨B,rfl⟩:=e;cases q with
  | bM=>cases c;exact⟨(.str_none _ _),(.str_none _ _)⟩
  | bl=>cases c;exact⟨(.str_bool _ _ _),(.str_bool _ _ _)⟩
  | int=>obtain⟨t,rfl⟩:=c;exact⟨(.str_int _ _ _ _),(.str_int _ _ _ _)⟩
  | str=>obtain⟨t,rfl⟩:=c;exact⟨(.str_str _ _ _ _),(.str_str _ _ _ _)⟩
  | aq=>obtain⟨a,g,rfl,d,_⟩:=c;exact⟨(.str_tuple _ _ d b),(.str_tuple _ _ d b)⟩
  | lst=>obtain⟨a,g,rfl,d,_⟩:=c;exact⟨(.str_list _ _ d b),(.str_list _ _ d b)⟩
 | .aq xs,q,A,u,w,e,c,f=>by
  have b:A.units<cLine:=by lia
  obtain⟨C,h,rfl,pL,o⟩:=e;cases q with
  | bM=>cases c;exact⟨(.tuple_none pL b),(.tuple_none pL b)⟩
  | bl=>cases c;exact⟨(.tuple_bool _ pL b),(.tuple_bool _ pL b)⟩
  | int=>obtain⟨t,rfl⟩:=c;exact⟨(.tuple_int _ _ pL b),(.tuple_int _ _ pL b)⟩
  | str=>obtain⟨t,rfl⟩:=c;exact⟨(.tuple_str _ _ pL b),(.tuple_str _ _ pL b)⟩
  | lst=>obtain⟨a,g,rfl,d,_⟩:=c;exact⟨(.tuple_list pL d b),(.tuple_list pL d b)⟩
  | aq l =>
   obtain⟨a,i,rfl,d,tR⟩:=c;have e1:xs.length=h.toArray.size:=by rw[fA,o.len]
   have r:l.length=i.toArray.size:=by rw[fA,tR.len]
   have v:=λj (x:j<h.toArray.size) (y:j<i.toArray.size)=>yY xs l A.in1 h i o tR (by rw[yl];have f:_+(lT _+1)<_:=f;lia) j (by simpa using x) (by simpa using y)
   exact⟨ud (GU e1 r) (.tuples pL d b v),mZ (by rw[GU e1 r];rfl) (.tuples pL d b v)⟩
 | .lst xs,q,A,u,w,e,c,f=>by
  have b:A.units<cLine:=by lia
  obtain⟨C,h,rfl,pL,o⟩:=e;cases q with
  | bM=>cases c;exact⟨(.list_none pL b),(.list_none pL b)⟩
  | bl=>cases c;exact⟨(.list_bool _ pL b),(.list_bool _ pL b)⟩
  | int=>obtain⟨t,rfl⟩:=c;exact⟨(.list_int _ _ pL b),(.list_int _ _ pL b)⟩
  | str=>obtain⟨t,rfl⟩:=c;exact⟨(.list_str _ _ pL b),(.list_str _ _ pL b)⟩
  | aq=>obtain⟨a,g,rfl,d,_⟩:=c;exact⟨(.list_tuple pL d b),(.list_tuple pL d b)⟩
  | lst l =>
   obtain⟨a,i,rfl,d,tR⟩:=c;have e1:h.toArray.size=xs.length:=by rw[fA,o.len]
   have r:i.toArray.size=l.length:=by rw[fA,tR.len]
   by_cases m:xs.length=l.length
   ·have sz:h.toArray.size=i.toArray.size:=by rw[e1,r];exact m
    have v:=λj (x:j<h.toArray.size) (y:j<i.toArray.size)=>yY xs l A.in1 h i o tR (by rw[yl];have f:_+(lT _+1)<_:=f;lia) j (by simpa using x) (by simpa using y)
    exact⟨ud (by rw[e1,nZ m];rfl) (.lists pL d sz b v),mZ (by rw[e1,nZ m];rfl) (.lists pL d sz b v)⟩
   ·have sz:(h.toArray.size != i.toArray.size)=true:=by rw[e1,r];simpa using m
    exact⟨ud (nY m).symm (.lists_lengths pL d sz b),mZ (dq not (nY m)).symm (.lists_lengths pL d sz b)⟩
theorem yY:∀(ps a:List Tr) A (us zs:List Value),cH s ps us->cH s a zs->A.units+lT ps<cLine ->
  ∀j h1 (c:j<zs.length),SeqAt.EqAt A s us[j] zs[j] (t8 ps a j)
 | [],a,A,us,zs,b,b2,f=>λj h1 c=>by
  simp only[cH]at b;subst b;cases h1
 | p::ps,a,A,us,zs,b,b2,f=>λj h1 c=>by
  simp only[cH]at b;obtain⟨u,l,rfl,d,i⟩:=b;cases a with
  | nil =>
   simp only[cH]at b2;subst b2;cases c
  | cons q a =>
   simp only[cH]at b2;obtain⟨z,m,rfl,g,k⟩:=b2;have h:A.units+dep p<cLine/\A.units+lT ps<cLine:=by
    simp only[lT]at f
    lia
   cases j with
   | zero =>
    refine GV d.TV (yX p q A _ _ d g h.1).1 λe=>?_
    simp only[List.getElem_cons_zero]at e;rw[e]at d;rw[d.inj g];exact kZ q
   | succ j=>exact yY ps a A _ _ i k h.2 j (by simpa using h1) (by simpa using c)
end
def Wv(a:dR s p u)(b2:dR s q w)(b:A.units+dep p<cLine):SeqAt.EqAt A s u w (eqT p q):=by
 refine GV a.TV (yX p q A _ _ a b2 b).1 λz=>?_
 rw[z]at a;rw[a.inj b2];exact kZ q
end
noncomputable def dj{a b:Type}(f:a->Option b):List a->Option (List b)
 | []=>some []
 | x::xs=>(f x).bind λy=>(dj f xs).map λc=>y::c
def L7:Kd->List Tr->Option Tr
 | .aq,a=>some (.aq a)
 | .lst,a=>some (.lst a)
 | _,_=>none
def toT(h:List aw):Nat->PV->Option Tr
 | 0,_=>none
 | n+1,p=>match p with
  | .bM=>some .bM
  | .bl b=>some (.bl b)
  | .int i=>some (.int i)
  | .str x=>some (.str x)
  | .fn _=>none
  | p=>(cS h p).bind λq=>(dj (toT h n) q.2).bind (L7 q.1)
def gC(h:dj f (x::xs)=some a):∃y r,f x=some y/\dj f xs=some r/\a=y::r:=by
 obtain⟨y,b,c⟩:=aZ h;obtain⟨r,d,e⟩:=bt c;exact⟨y,r,b,d,e.symm⟩
theorem yZ(h:List aw):∀(n:Nat) (p:PV) (t:Tr),toT h n p=some t->dep t<=n
 | 0,_,_,e=>by cases e
 | n+1,p,t,e=>by
  have go:((cS h p).bind λq=>(dj (toT h n) q.2).bind (L7 q.1))=some t->dep t<=n+1:=λe=>by
   obtain⟨q,_,e⟩:=aZ e;obtain⟨a,e1,c⟩:=aZ e;have hd:∀b a,dj (toT h n) b=some a->lT a<=n:=by
    intro b;induction b with
    | nil=>intro a z;cases z;simp[lT]
    | cons p b ih =>
     intro a z;obtain⟨y,r,d,f,rfl⟩:=gC z;have:=yZ h n p y d;have:=ih r f;simp only[lT];lia
   have:=hd _ _ e1;unfold L7 at c;split at c<;>cases c<;>simp only[dep]<;>lia
  unfold toT at e;split at e<;>first | (cases e;simp[dep];done) | (cases e;done) | exact go e
section
variable {X:Cx} {ae:List (Addr×Obj)} {σ τ:St} {s:Shared} {aa H:Hp} {ab F:Fz} {st:cL}
theorem Rep.tree(R:Rep X.K aa ab F st τ H)(I:Inv X ae σ H s):∀(n:Nat) (p:PV) (t:Tr) (v:V) (u:Value),toT st.h n p=some t->bZ X.K F p v->RelV v u->dR s t u
 | 0,_,_,_,_,e,_,_=>by cases e
 | n+1,p,t,v,u,e,b,r=>by
  have go:((cS st.h p).bind λq=>(dj (toT st.h n) q.2).bind (L7 q.1))=some t->dR s t u:=λe=>by
   obtain⟨⟨k,f⟩,C,e⟩:=aZ e;obtain⟨g,e1,i⟩:=aZ e;obtain⟨a,j,rfl,d,B⟩:=R.at C b;have hd:∀f g j o,dj (toT st.h n) f=some g->aG X.K F f j->Vals j o->cH s g o:=by
    intro f;induction f with
    | nil=>intro g j o z b r;cases z;rw[b.c5]at r;cases r;simp[cH]
    | cons p f ih =>
     intro g j o z b r;obtain⟨y,q,D,d,rfl⟩:=gC z;obtain⟨v,w,rfl,E,b2⟩:=b.cG;cases r with
     | cons J m =>
      simp only[cH];exact⟨_,_,rfl,R.tree I n p y v _ D E J,ih q w _ d b2 m⟩
   cases r
   match k,i,d with
   | .aq,i,d =>
    cases i;obtain⟨x,m,pl,_⟩:=I.tuple d.2;simp only[dR];exact⟨a,x,rfl,pl,hd _ _ _ _ e1 B m⟩
   | .lst,i,d =>
    cases i;obtain⟨x,m,pl,_⟩:=I.list (lB.sq d);simp only[dR];exact⟨a,x,rfl,pl.isList,hd _ _ _ _ e1 B m⟩
  unfold toT at e;split at e
  ·cases e;rw[dA.mp b]at r;cases r;simp[dR]
  ·cases e;rw[cj.mp b]at r;cases r;simp[dR]
  ·cases e;rw[aH.mp b]at r;obtain⟨t,rfl⟩:=r;simp[dR]
  ·cases e;rw[cZ.mp b]at r;obtain⟨t,rfl⟩:=r;simp[dR]
  ·cases e
  ·exact go e
end
def gi:Nat:=1000
def eqB(h:List aw)(p q:PV):Option Bool:=(toT h gi p).bind λx=>(toT h gi q).map λy=>eqT x y
def jB:G2:=λh p q=>(eqB h p q).map .bl
def L8:G2:=λh p q=>(eqB h p q).map λb=>.bl !b
noncomputable def ue:PV->Bool
 | .bM=>true
 | _=>false
def isO:G2:=λ_ p q=>match q with | .bM=>some (.bl (ue p)) | _=>none
def Ks(h:List aw)(p:PV)(ps:List PV):Option Bool:=(toT h gi p).bind λx=>(dj (toT h gi) ps).map λa=>a.any λy=>eqT y x
section
variable {X:Cx}
def BF(e:eqB h p q=some b):∃x y,toT h gi p=some x/\toT h gi q=some y/\b=eqT x y:=by
 obtain⟨x,e1,e⟩:=aZ e;obtain⟨y,a,c⟩:=bt e;exact⟨x,y,e1,a,c.symm⟩
def Ww(l:X.A.units+1150<cLine):wJ X (compareOp .Eq) jB:=by
 rintro m s σ H x y v u Q I a c ⟨o,q,F,st,r,t,B,p,e,R,d,f,k⟩
 obtain⟨b,g,rfl⟩:=bt e;obtain⟨h,i,e1,j,rfl⟩:=BF g;have hd:=yZ _ _ _ _ e1;exact(yX h i X.A v u (R.tree I _ _ _ _ _ e1 d a) (R.tree I _ _ _ _ _ j f c) (by unfold gi at hd;lia)).1 X.prog X.w X.xe _ ⟨.bl _,H,I,rfl,k _ H F R (Gr.refl F) (cj.mpr rfl)⟩
def Wx(l:X.A.units+1150<cLine):wJ X (compareOp .NotEq) L8:=by
 rintro m s σ H x y v u Q I a c ⟨o,q,F,st,r,t,B,p,e,R,d,f,k⟩
 obtain⟨b,g,rfl⟩:=bt e;obtain⟨h,i,e1,j,rfl⟩:=BF g;have hd:=yZ _ _ _ _ e1;exact(yX h i X.A v u (R.tree I _ _ _ _ _ e1 d a) (R.tree I _ _ _ _ _ j f c) (by unfold gi at hd;lia)).2 X.prog X.w X.xe _ ⟨.bl _,H,I,rfl,k _ H F R (Gr.refl F) (cj.mpr rfl)⟩
def GW{K:W.Frag}(b:bZ K F p x):decide (x=.bM)=ue p:=by
 cases p with
 | bM=>rw[dA.mp b];rfl
 | bl _=>rw[cj.mp b];rfl
 | int _=>rw[aH.mp b];rfl
 | str _=>rw[cZ.mp b];rfl
 | ref _=>obtain⟨_,_,rfl⟩:=dQ.mp b;rfl
 | fn _=>obtain⟨_,rfl,_⟩:=tW.mp b;rfl
 | nd _ _=>obtain⟨_,_,rfl,_⟩:=jJ.mp b;rfl
def Wz:wJ X (compareOp .Is) isO:=by
 rintro a s σ H x y v u Q I b c ⟨g,h,F,st,i,j,l,p,e,R,d,f,k⟩
 unfold isO at e;split at e
 ·cases e;exact VO a s σ H x y v u Q I b c ⟨dA.mp f,k _ H F R (Gr.refl F) (cj.mpr (by rw[GW d]))⟩
 ·cases e
open Classical in
noncomputable def n6 (s:Shared) (p:Tr) (u:Value):Bool:=if h:∃q,dR s q u then eqT h.choose p else false
def GX(b:dR s q u):n6 s p u=eqT q p:=by
 have h:∃q,dR s q u:=⟨q,b⟩
 unfold n6;rw[dif_pos h,dR.inj h.choose_spec b]
theorem y0:∀{a:List Tr} {us:List Value},cH s a us->us.any (n6 s p)=a.any λy=>eqT y p
 | [],_,b=>by simp only[cH]at b;subst b;rfl
 | q::a,_,b=>by
  simp only[cH]at b;obtain⟨u,r,rfl,c,d⟩:=b;rw[jG,jG,GX c,y0 d]
theorem y8(d:dR s p w):∀{c:List Tr} {us:List Value},cH s c us->A.units+lT c<cLine->∀u∈us,SeqAt.EqAt A s u w (n6 s p u)
 | [],_,b,_=>λu a=>by simp only[cH]at b;subst b;cases a
 | q::c,_,b,f=>λu a=>by
  simp only[cH]at b;obtain⟨h,r,rfl,e,g⟩:=b;simp only[lT]at f;rcases aU.mp a with rfl | a
  ·rw[GX e];exact Wv e d (by lia)
  ·exact y8 d g (by lia) u a
theorem Rep.trees{st:cL}(R:Rep X.K k m F st o H)(I:Inv X t σ H s)(n:Nat):∀(ps:List PV) (a:List Tr) (vs:List V) (us:List Value),dj (toT st.h n) ps=some a->aG X.K F ps vs->Vals vs us->cH s a us/\lT a<=n
 | [],a,vs,us,z,b,r=>by cases z;rw[b.c5]at r;cases r;simp[cH,lT]
 | p::ps,a,vs,us,z,b,r=>by
  obtain⟨y,q,d,e,rfl⟩:=gC z;obtain⟨v,w,rfl,f,b2⟩:=b.cG;cases r with
  | cons g i =>
   obtain⟨j,u⟩:=R.trees I n ps q w _ e b2 i;have:=yZ _ _ _ _ d;simp only[lT];exact⟨⟨_,_,rfl,R.tree I n p y v _ d f g,j⟩,by lia⟩
def L9(e:Ks h p ps=some b):∃x a,toT h gi p=some x/\dj (toT h gi) ps=some a/\b=a.any λy=>eqT y x:=by
 obtain⟨x,e1,e⟩:=aZ e;obtain⟨y,c,d⟩:=bt e;exact⟨x,y,e1,c,d.symm⟩
def Ma(N:X.A.units+1150<cLine){st:cL}(I:Inv X i σ H s)(o:RelV x v)(p:RelV y u)(R:Rep X.K T Y F st Z H)(B:bZ X.K F C x)(D:bZ X.K F E y)
  (J:EO st.h E=some ps) (L:Ks st.h C ps=some b) :
  (Q (.bl b) H->wpAny (model X.prog X.w) X.A (compareOp .In v u) (EP X i σ Q) X.xe s)/\(Q (.bl !b) H->wpAny (model X.prog X.w) X.A (compareOp .NotIn v u) (EP X i σ Q) X.xe s):=by
 obtain⟨t,j,e1,k,rfl⟩:=L9 L;obtain⟨a,vs,rfl,d,l⟩:=R.seq J D;have m:=R.tree I _ _ _ _ _ e1 B o;cases p;rcases d with d | d
 ·obtain⟨c,r,pl,_⟩:=I.tuple d;obtain⟨e,g⟩:=R.trees I _ _ _ _ _ k l r;have f:=λw (hw:w∈c.toArray)=>y8 (A:=X.A.in1) m e (by rw[yl];unfold gi at g;lia) w (by grind)
  have M:c.toArray.any (n6 s t)=j.any λy=>eqT y t:=by rw[show c.toArray.any (n6 s t)=c.any (n6 s t) by simp,y0 e]
  exact⟨λq=>SeqAt.in_tupleAt (n6 s t) pl f ⟨.bl _,H,I,rfl,by grind⟩,λq=>SeqAt.notIn_tupleAt (n6 s t) pl f ⟨.bl _,H,I,rfl,by grind⟩⟩
 ·obtain⟨c,r,pl,_⟩:=I.list d.sq;obtain⟨e,g⟩:=R.trees I _ _ _ _ _ k l r;have f:=λw (hw:w∈c.toArray)=>y8 (A:=X.A.in1) m e (by rw[yl];unfold gi at g;lia) w (by grind)
  have M:c.toArray.any (n6 s t)=j.any λy=>eqT y t:=by rw[show c.toArray.any (n6 s t)=c.any (n6 s t) by simp,y0 e]
  exact⟨λq=>SeqAt.in_listAt (n6 s t) pl.isList f ⟨.bl _,H,I,rfl,by grind⟩,λq=>SeqAt.notIn_listAt (n6 s t) pl.isList f ⟨.bl _,H,I,rfl,by grind⟩⟩
end
section
variable {K:W.Frag} {F:Fz}
def aG.lF{ps:List PV}{vs:List V}{i:Int}{p:PV}(h:aG K F ps vs)(e:L2.lF ps i=some p):∃v,L2.lF vs i=some v/\bZ K F p v:=by
 unfold L2.lF at e ⊢;rw[<-h.length];cases z:OX ps.length i with
 | none=>rw[z]at e;cases e
 | some j =>
  rw[z]at e;exact h.get e
def km(xs:List PV)(lo a:Option Int):List PV:=(xs.drop (HT.fu xs.length 0 lo)).take (HT.fu xs.length xs.length a-HT.fu xs.length 0 lo)
def aG.cut{ps:List PV}{vs:List V}(h:aG K F ps vs)(lo a:Option Int):aG K F (km ps lo a) (Bi vs lo a):=by
 unfold km Bi;rw[h.length];exact(h.drop _).take _
def dU{p:PV}{vs:List V}(b:aG K F [p] vs):∃v,vs=[v]/\bZ K F p v:=by
 obtain⟨v,r,rfl,c,d⟩:=b.cG;rw[d.c5];exact⟨v,rfl,c⟩
def oe{p q:PV}{vs:List V}(b:aG K F [p,q] vs):∃v w,vs=[v,w]/\bZ K F p v/\bZ K F q w:=by
 obtain⟨v,r,rfl,c,d⟩:=b.cG;obtain⟨w,rfl,e⟩:=dU d;exact⟨v,w,rfl,c,e⟩
end
def og{prog:Program}{w:World}{A:Around}{E:Value->Shared->Prop}{s:Shared}{t c:Addr}{a:Array Value}{d e:Value}{lo b:Option Int}{Q:Value->Shared->Prop}(ht:IsTup s.heap t a)(f:s.heap.IsSliceOf c d e .none)(pl:IsPart d lo)(g:IsPart e b)
  (i:HT.fu a.size 0 lo=0) (h1:HT.fu a.size a.size b=a.size) (h:Q (.ref t) s):wpAny (model prog w) A (getItem (.ref t) (.ref c)) Q E s:=by
 obtain⟨j,k,l,o⟩:=id f;have m:s.TypeIs (.ref c) "slice":=⟨j,k,l⟩;unfold getItem
 try with_reducible refine dZ ?_
 first | refine ag (aj ?_) | skip
 refine ag (wpAny_sequenceKey ht.typeIs (by decide) ?_)
 refine ag (jC ht.typeIs pf (fX pf ht.typeIs entry_tuple_getitem ?_ (args_tuple_getitem _ _)));show wpAny _ _ (Builtin.Tuple.tupleItemsOf (.ref t) >>= _) _ _ s;refine ag (tupleItemsOf_ ht (ag (pN m ?_)));refine ag (HT.jk f pl g ?_);have hc:(((HT.fu a.size 0 lo:Nat):Int)==0&&(1:Int)==1&&(HT.fu a.size a.size b-HT.fu a.size 0 lo)==a.size)=true:=by
  rw[i,h1];simp
 show wpAny _ _ (if(((HT.fu a.size 0 lo:Nat):Int)==0&&1==1&&(HT.fu a.size a.size b-HT.fu a.size 0 lo)==a.size)=true then _ else _) _ _ s
 rw[if_pos hc];unfold Builtin.Tuple.tupleIsExact;refine ag (ag (pN ht.typeIs (aj ?_)));exact ag (gz (aj ⟨_,rfl,aj h⟩))
def IZ(h:List aw)(lo b:Option Int)(p:PV):Option PV:=match cS h p with
 | some (.lst,a)=>some (.lst (km a lo b))
 | some (.aq,a)=>some (.aq (km a lo b))
 | _=>none
section
variable {X:Cx} {aa:Hp} {ab:Fz} {a b e:Expr} {es:List Expr} {fa fb:Gx PV} {ts:Gx (List PV)} {pos p1 p2:Pos} {lo hi:Option Expr}
def rSl(K:W.Frag):V->Option Int->Option Int->Hp->VK->Prop:=λx lo hi H Q=>∃aa ab F c f g p,IZ c.h lo hi g=some p/\Rep K aa ab F c f H/\bZ K F g x/\∀v i d,Rep K aa ab d c f i->Gr F d->bZ K d p v->Q v i
def slT:SlR X (rSl X.K):=by
 rintro t s σ H x v u w lo hi y Q I i j pl pu ⟨aa,ab,F,st,J,C,p,e,R,l,k⟩
 unfold IZ at e;split at e
 ·rename_i z;cases e;obtain⟨a,d,rfl,h,f⟩:=R.at z l;refine QB t s σ H _ v u w lo hi y Q I i j pl pu ⟨a,d,rfl,lB.sq h,λq m=>?_⟩
  obtain⟨R2,g⟩:=R.laid (.lst (Bi d lo hi)) m;exact k _ _ _ R2 g (gH.mpr ⟨q,_,rfl,lB.of aF,(f.cut lo hi).mono g⟩)
 ·rename_i B z;cases e;cases C with
  | nd L pp =>
   cases z;obtain⟨a,d,rfl,h,f⟩:=cR.mp l;by_cases hw:HT.fu d.length 0 lo=0/\HT.fu d.length d.length hi=d.length
   ·cases i;obtain⟨D,r,ht,M⟩:=I.tuple (bD R.sub h);have N:D.toArray.size=d.length:=by rw[fA];exact r.length.symm
    refine⟨"tuple",_,pf.lookup,ht.typeIs,?_⟩;refine og ht j pl pu (by grind) (by grind) ⟨.ref a,H,I,rfl,k _ H F R (Gr.refl F) ?_⟩
    have hc:km B lo hi=B:=by
     unfold km;rw[f.length,hw.1,hw.2,List.drop_zero,Nat.sub_zero,<-f.length,List.take_length]
    rw[hc];exact l
   ·refine VW t s σ H _ v u w lo hi y Q I i j pl pu ⟨a,d,rfl,bD R.sub h,hw,λq m=>?_⟩
    obtain⟨R2,g⟩:=R.laid (.aq (Bi d lo hi)) m;exact k _ _ _ R2 g (cR.mpr ⟨q,_,rfl,iG.of aF,(f.cut lo hi).mono g⟩)
  | ref n =>
   obtain⟨c,e1,E⟩:=aZ z;obtain⟨o,T⟩:=aR E;have hk:c.k=.aq:=by grind
   unfold live at o;rw[hk]at o;cases o
  | _=>cases z
 ·cases e
abbrev WA(X:Cx)(aa:Hp)(ab:Fz)(f:Gx (Option Int)):TO:=tX X aa ab (λ_ a b=>a=b) f
def _root_.L2.PO.imp{X:Cx}{e:Option Expr}{t t':TO}(h:PO X e t)(hi:∀c H Q,t' c H Q->t c H Q):PO X e t':=λd s c H Q I hw=>h d s c H Q I (hi _ _ _ hw)
def oh:PV->Option Int | .int i=>some i | _=>none
def gD{p:PV}{i:Int}(h:oh p=some i):p=.int i:=by
 cases p<;>first | (cases h;rfl) | cases h
def wN(fe:Gx PV):Gx (Option Int):=bnd fe λp=>lH ((oh p).map some)
def WB:PO X none (WA X aa ab (bg none)):=P7.imp λc H Q h=>yV h λ_=>rfl
def WC(h:PE X e (tE X aa ab fa)):PO X (some e) (WA X aa ab (wN fa)):=(P8 h).imp λσ H Q ⟨F,st,R,h⟩=>⟨F,st,R,h.bnd λp v F1 j d f k c g=>by
 obtain⟨o,e,z⟩:=g.lH;obtain⟨i,e1,rfl⟩:=bt e;rw[gD e1]at c;exact⟨i,aH.mp c,z _ d F1 f (Gr.refl _) rfl⟩⟩
def cutE(fa:Gx PV)(c d:Gx (Option Int)):Gx PV:=bnd fa λp=>bnd c λl=>bnd d λr=>hp λh=>IZ h l r p
def aaR{d f:Gx (Option Int)}(g:PE X e (tE X aa ab fa))(i:PO X lo (WA X aa ab d))(j:PO X hi (WA X aa ab f)):PE X (.Subscript e (.Slice lo hi none p2) pos) (tE X aa ab (cutE fa d f)):=(LF slT g i j).imp λσ H Q ⟨F,st,R,h⟩ =>
 ⟨F,st,R,h.bnd λp v F1 k I m J q t=>⟨F1,k,m,t.bnd λl L F2 c M R2 u b2 w=>⟨F2,c,R2,w.bnd λr N x y T B C D E=>by
  cases b2;cases D;obtain⟨o,e,z⟩:=E.hp;exact⟨aa,ab,x,y,σ,p,o,e,B,q.mono (u.trans C),z⟩⟩⟩⟩
abbrev GC:=List aw->List PV->Option PV
def rC(K:W.Frag)(g:GC):List V->Hp->VK->Prop:=λk H Q=>∃aa ab F c f i p,g c.h i=some p/\Rep K aa ab F c f H/\aG K F i k/\∀v j d,Rep K aa ab d c f j->Gr F d->bZ K d p v->Q v j
abbrev I0(X:Cx)(f:Value)(g:GC):Prop:=nI X f (rC X.K g)
def gL(g:GC)(ts:Gx (List PV)):Gx PV:=bnd ts λc=>hp λh=>g h c
def lI{g:GC}{c:St}{H:Hp}{Q:VK}(h:tE X aa ab (gL g ts) c H Q):tCB (rC X.K g) (tA X aa ab ts) c H Q:=by
 obtain⟨F,d,R,h⟩:=h;refine⟨F,d,R,h.bnd λf m F1 i p j q k l=>?_⟩
 obtain⟨o,e,z⟩:=l.hp;exact⟨aa,ab,F1,i,c,f,o,e,j,k,z⟩
def lnO(h:List aw)(p:PV):Option Nat:=match cS h p with
 | some (.aq,c)=>some c.length
 | some (.lst,c)=>some c.length
 | some (.fJ _ ks,_)=>some ks.length
 | _=>none
def gX:GC:=λh c=>match c with
 | [.str z]=>if z.length<=gu then some (.int z.length)else none
 | [p]=>(lnO h p).map λn=>.int n
 | _=>none
def Ja:GC:=λh d=>match d with
 | [.nd .aq c]=>some (.aq c)
 | [p]=>(BD h p).map λc=>.aq c
 | _=>none
noncomputable def Jb:GC:=λ_ c=>match c with
 | [.int i]=>some (.int i)
 | [.bl b]=>some (.int (if b then 1 else 0))
 | _=>none
noncomputable def Jc:GC:=λ_ c=>match c with
 | [.int i]=>if 0<=i/\i<1000 then some (.str (toString i))else none
 | _=>none
def l9(ps:List PV):Option (List Int):=dj oh ps
def Jd:GC:=λh c=>match c with
 | [p]=>(BD h p).bind λd=>(l9 d).map λf=>.int f.sum
 | _=>none
def BG{A:Around}{E:Value->Shared->Prop}{s:Shared}{d:Addr}{o:Obj}{es:Array DictEntry}{f n:Nat}{Q:Value->Shared->Prop}(hd:(d==sysModules)=false)(ho:s.heap.get? d=some o)(hc:o.ExactDict)(g:o.data=.dict es f)(i:es.size=n)(j:(n:Int)<2^63)
  (h:Q (.int n (s.toks+1)) {s with toks:=s.toks+1+1}):wpAny (model X.prog X.w) A (call (.builtin "len") [.ref d]) Q E s:=by
 have ty:s.TypeIs (.ref d) "dict":=⟨o,ho,hc.1⟩;have k:MeetsIn X.prog X.w (Builtin.«dict.__len__» ⟨[.ref d],[]⟩) (λ_ R c=>c.heap.get? d=some o/\R (.ok (.ret (.int n c.toks))) {c with toks:=c.toks+1}):=.of_wp <| by
  rintro A R c ⟨l,m⟩
  show wpAny _ _ (dictSize d >>= _) _ _ c;refine ag (ag (sJ l g (aj ?_)));refine ag (wpAny_pendingCount_other hd ?_);refine wpAny_ret_mkInt ?_;rw[sU,i];exact m
 refine DH kind_len plain_len entry_len (args_len1 _) ?_;refine ag (aj ?_);refine ag (jC ty F.slot_dict_len (call_meetsIn F.slot_dict_len ty F.entry_dict_len (F.args_dict_len_1 _) k ⟨ho,?_⟩));show wpAny _ _ _ _ _ {s with toks:=s.toks+1}
 refine ag (dZ (aj ?_));refine ag (wpAny_letGo ?_);show wpAny _ _ (if((n:Nat):Int)>=2^63 then _ else _) _ _ _
 rw[if_neg (by lia)]
 exact ag (wpAny_mkInt (aj ⟨_,rfl,h⟩))
def GY{n:Nat}(h:n<=sizeLine):(n:Int)<2^63:=by
 have d:n<=2^62:=bA h (by decide)
 have c:2^62=4611686018427387904:=by decide
 lia
def QZ{k:List (Addr×Obj)}{s:Shared}{l:St}{H:Hp}{a:Addr}{t:Bool}{ks:List (List bE)}{vs:List V}{m:List Value}{Q:VK}{F:Hp}(I:Inv X k l H s)(x:Vals [V.ref a] m)(h:lQ X.K F H a false (.fJ t ks) vs)(q:Q (.int ks.length) H):wpAny (model X.prog X.w) X.A (call (.builtin "len") m) (λu B=>∃v H',Inv X k l H' B/\RelV v u/\Q v H') X.xe s:=by
 obtain⟨u,rfl,C⟩:=j9 x;cases C;cases t with
 | false =>
  obtain⟨c,d,D,M⟩:=h;obtain⟨z,y,ws,hk,o,es,E,f,g,i,p,r,N⟩:=(I.hok a _ d);have j:ks.length=c.length:=by grind
  have J:es.size=ks.length:=by rw[j,pK hk,<-r.length,de]
  exact BG y f g i J (GY (by grind)) ⟨.int ks.length,H,I.tok _,⟨_,rfl⟩,q⟩
 | true =>
  obtain⟨L,d,_,D,_⟩:=h;obtain⟨z,y,o,es,E,f,g,i,p,r⟩:=(I.hok a _ d);have j:ks.length=L.length:=by grind
  exact BG y f g i (by rw[<-de,p,ao,j]) (GY (by grind)) ⟨.int ks.length,H,I.tok _,⟨_,rfl⟩,q⟩
def Je:I0 X (.builtin "len") gX:=by
 rintro g s σ H xs us Q I rs ⟨aa,ab,F,st,i,j,p,e,R,bs,k⟩
 unfold gX at e;split at e
 ·obtain⟨h,rfl⟩:=aR e;obtain⟨v,rfl,b⟩:=dU bs;rw[cZ.mp b]at rs;exact yM g s σ H _ us Q I rs ⟨_,rfl,gh h,k _ H F R (Gr.refl F) (aH.mpr rfl)⟩
 ·obtain⟨n,e1,rfl⟩:=bt e;obtain⟨v,rfl,b⟩:=dU bs;unfold lnO at e1;split at e1
  ·rename_i z;cases e1;obtain⟨a,d,rfl,c,f⟩:=R.at z b;exact nN g s σ H _ us Q I rs ⟨a,d,rfl,.inr c.2,k _ H F R (Gr.refl F) (aH.mpr (by rw[f.length]))⟩
  ·rename_i z;cases e1;obtain⟨a,d,rfl,c,f⟩:=R.at z b;exact nN g s σ H _ us Q I rs ⟨a,d,rfl,.inl (lB.sq c),k _ H F R (Gr.refl F) (aH.mpr (by rw[f.length]))⟩
  ·rename_i z;cases e1;obtain⟨a,d,rfl,c,f⟩:=R.at z b;exact QZ I rs c (k _ H F R (Gr.refl F) (aH.mpr rfl))
  ·cases e1
 ·cases e
def Jf:I0 X (.type "tuple") Ja:=by
 rintro f s σ H xs us Q I rs ⟨aa,ab,F,st,j,l,p,e,R,bs,k⟩
 unfold Ja at e;split at e
 ·cases e;obtain⟨v,rfl,b⟩:=dU bs;obtain⟨a,c,rfl,d,g⟩:=cR.mp b;exact l7 f s σ H _ us Q I rs ⟨a,c,rfl,.inr ⟨bD R.sub d,k _ H F R (Gr.refl F) b⟩⟩
 ·obtain⟨m,e1,rfl⟩:=bt e;obtain⟨v,rfl,b⟩:=dU bs;obtain⟨a,c,rfl,d,g⟩:=R.at (ig e1) b;refine l7 f s σ H _ us Q I rs ⟨a,c,rfl,.inl ⟨lB.sq d,λq i=>?_⟩⟩
  obtain⟨R2,h⟩:=R.laid (.aq c) i;exact k _ _ _ R2 h (cR.mpr ⟨q,_,rfl,iG.of aF,g.mono h⟩)
 ·cases e
def Jg:I0 X (.type "int") Jb:=by
 rintro c s σ H xs us Q I rs ⟨aa,ab,F,st,d,f,p,e,R,bs,k⟩
 unfold Jb at e;split at e
 ·cases e;obtain⟨v,rfl,b⟩:=dU bs;rw[aH.mp b]at rs;exact wx c s σ H _ us Q I rs (.inl ⟨_,rfl,k _ H F R (Gr.refl F) (aH.mpr rfl)⟩)
 ·cases e;obtain⟨v,rfl,b⟩:=dU bs;rw[cj.mp b]at rs;exact wx c s σ H _ us Q I rs (.inr ⟨_,rfl,k _ H F R (Gr.refl F) (aH.mpr rfl)⟩)
 ·cases e
def Jh:I0 X (.type "str") Jc:=by
 rintro c s σ H xs us Q I rs ⟨aa,ab,F,st,d,f,p,e,R,bs,k⟩
 unfold Jc at e;split at e
 ·rename_i i;obtain⟨⟨g,j⟩,rfl⟩:=aR e;obtain⟨v,rfl,b⟩:=dU bs;rw[aH.mp b]at rs;exact yI c s σ H _ us Q I rs ⟨i,rfl,(by
   by_cases h:i.natAbs=0
   ·simp_all
   ·exact iV (Nat.log2_le_self _) (by lia)),k _ H F R (Gr.refl F) (cZ.mpr rfl)⟩
 ·cases e
theorem oi{K:W.Frag}{F:Fz}:∀{ps:List PV} {ns:List Int} {vs:List V},l9 ps=some ns->aG K F ps vs->vs=ns.map V.int
 | [],ns,vs,h,b=>by cases h;exact b.c5
 | p::r,ns,vs,h,b=>by
  obtain⟨i,j,f,g,rfl⟩:=gC h;obtain⟨v,k,rfl,c,d⟩:=b.cG;rw[gD f]at c;rw[aH.mp c,oi g d];rfl
def Ra{d:List (Addr×Obj)}{f:St}{H:Hp}{s:Shared}{F:Fz}(I:Inv X d f H s){a:Addr}{vs:List V}{ps:List PV}{c:List Int}(g:l9 ps=some c)(h:lB X.K H a vs)(i:aG X.K F ps vs) :
  ∃xs:Array (Int×Tok),s.heap.IsList a (intItems xs)/\c=xs.toList.map (·.1):=by
 obtain⟨k,r,pl,_⟩:=I.list h.sq;have j:=oi g i;subst j;have hi:=mV r;obtain⟨xs,ex⟩:=hi.allInts.items;exact⟨xs,by rw[<-ex];exact pl.isList,by rw[<-hi.numsOf,<-nums_intItems,<-ex]⟩
def Ji(hc:X.A.handled=none):I0 X (.builtin "sum") Jd:=by
 rintro o s σ H c us Q I rs ⟨aa,ab,F,st,q,r,p,e,R,bs,k⟩
 unfold Jd at e;split at e
 ·obtain⟨t,e1,e⟩:=aZ e;obtain⟨d,f,rfl⟩:=bt e;obtain⟨v,rfl,b⟩:=dU bs;obtain⟨a,w,rfl,g,h⟩:=R.at (ig e1) b;obtain⟨c,i,j⟩:=Ra I f g h;obtain⟨u,rfl,l⟩:=j9 rs;cases l;refine sum_intListG hc i λx y m hk=>⟨.int d.sum,H,I.kept hk,⟨m,?_⟩,k _ H F R (Gr.refl F) (aH.mpr rfl)⟩
  rw[preSum_eq,pj (by simp),j]
 ·cases e
inductive Ty where
 | int | str | bool | tuple | list
noncomputable def Ty.nm:Ty->String
 | .int=>"int" | .str=>"str" | .bool=>"bool" | .tuple=>"tuple" | .list=>"list"
def aaT(h:List aw):PV->Option String
 | .bM=>some "NoneType"
 | .bl _=>some "bool"
 | .int _=>some "int"
 | .str _=>some "str"
 | p=>match cS h p with
  | some (.aq,_)=>some "tuple"
  | some (.lst,_)=>some "list"
  | _=>none
def WD(t:Ty)(y:String):Bool:=y==t.nm || (t.nm=="int"&&y=="bool")
def isV(t:Ty)(fa:Gx PV):Gx PV:=bnd fa λp=>hp λh=>(aaT h p).map λy=>.bl (WD t y)
def rIs(K:W.Frag)(t:Ty):List V->Hp->VK->Prop:=λd H Q=>∃aa ab F c f p x y,d=[x,.ty t.nm]/\Rep K aa ab F c f H/\bZ K F p x/\aaT c.h p=some y/\Q (.bl (WD t y)) H
def Rb(t:Ty):nI X (.builtin "isinstance") (rIs X.K t):=by
 rintro l s σ H xs us Q I rs ⟨aa,ab,F,st,C,p,x,y,ex,R,b,c,q⟩
 subst ex;obtain⟨u,w,rfl,d,m⟩:=Tt rs;cases m;have fin:∀f,EP X l σ Q (.bool (WD t y)) {s with toks:=f}:=λf=>⟨.bl _,H,I.tok f,rfl,q⟩
 have more:(match cS st.h p with
  | some (.aq,_)=>some "tuple"
  | some (.lst,_)=>some "list"
  | _=>none)=some y->wpAny (model X.prog X.w) X.A (call (.builtin "isinstance") [u,.type t.nm]) (EP X l σ Q) X.xe s:=λc=>by
  split at c
  ·rename_i z;cases c;obtain⟨a,r,rfl,g,v⟩:=R.at z b;cases d;obtain⟨B,_,⟨o,j,g,_⟩,_⟩:=I.tuple g.2;exact W.kia_one W.kitx_tuple I.tj ⟨o,j,g⟩ (by cases t<;>kernel_rfl) (λz=>nomatch z) fin
  ·rename_i z;cases c;obtain⟨a,r,rfl,g,v⟩:=R.at z b;cases d;obtain⟨B,n,_,j,_⟩:=I.GR g;exact W.kia_one W.kitx_list I.tj ⟨_,j,rfl⟩ (by cases t<;>kernel_rfl) (λz=>nomatch z) fin
  ·cases c
 cases p with
 | bM =>
  cases c;rw[dA.mp b]at d;cases d;exact W.kia_one W.kitx_none I.tj True.intro (by cases t<;>kernel_rfl) (λz=>nomatch z) fin
 | bl y =>
  cases c;rw[cj.mp b]at d;cases d;exact W.kia_one W.kitx_bool I.tj True.intro (by cases t<;>kernel_rfl) (λz=>nomatch z) fin
 | int i =>
  cases c;rw[aH.mp b]at d;obtain⟨f,rfl⟩:=d;exact W.kia_one W.kitx_int I.tj True.intro (by cases t<;>kernel_rfl) (λz=>nomatch z) fin
 | str y =>
  cases c;rw[cZ.mp b]at d;obtain⟨f,rfl⟩:=d;exact W.kia_one W.kitx_str I.tj True.intro (by cases t<;>kernel_rfl) (λz=>nomatch z) fin
 | ref n=>exact more c
 | fn x=>exact more c
 | nd k D=>exact more c
def q9:bootBuiltins "isinstance"=some (.builtin "isinstance"):=by kernel_rfl
def oj(t:Ty):bootBuiltins (Str.ofString t.nm)=some (.type t.nm):=by cases t<;>kernel_rfl
noncomputable def tys:List Ty:=[.int,.str,.bool,.tuple,.list]
def GZ(x:Str):Option Ty:=tys.find? λt=>x==Str.ofString t.nm
def Mb{x:Str}{t:Ty}(h:GZ x=some t):x=Str.ofString t.nm:=by
 have:=List.find?_some h;exact bh this
def ae9{x:Str}{t:Ty}(ht:GZ x=some t)(i:Gl X "isinstance")(j:X.mg "isinstance"=none)(c:Gl X x)(d:X.mg x=none)(k:PE X a (tE X aa ab fa))(f:∀es,starEach (a::es) X.env=(false,eval a X.env)::starEach es X.env) :
  PE X (.Call (.Name "isinstance" p1) [a,.Name x p2] [] pos) (tE X aa ab (isV t fa)):=by
 have l:=Mb ht;subst l;refine(nK (Rb t) i j q9 (jN k (jN (Po (v:=.ty t.nm) c d (oj t) rfl (by cases t<;>decide) (by cases t<;>decide)) tF rfl) (f _)) (by decide) (by decide) (f _)).imp λσ H Q ⟨F,st,R,h⟩=>?_
 refine⟨F,st,R,h.bnd λp v F1 m q g w r u=>?_⟩
 obtain⟨o,e,z⟩:=u.hp;obtain⟨y,e1,rfl⟩:=bt e;exact⟨aa,ab,F1,m,σ,p,v,y,rfl,g,r,e1,z _ q F1 g (Gr.refl _) (cj.mpr rfl)⟩
def za(fa:Gx PV):Gx PV:=bnd fa λp=>lH ((oh p).map λi=>.int (-i))
def aaU(d:PE X a (tE X aa ab fa)):PE X (.UnaryOp .USub a pos) (tE X aa ab (za fa)):=(ZV VN d).imp λσ H Q ⟨F,st,R,h⟩=>⟨F,st,R,h.bnd λp v F1 k f g l c j=>by
 obtain⟨o,e,z⟩:=j.lH;obtain⟨i,e1,rfl⟩:=bt e;rw[gD e1]at c;exact⟨i,aH.mp c,z _ f F1 g (Gr.refl _) (aH.mpr rfl)⟩⟩
end
noncomputable def BH:PV->Option bE
 | .int i=>some (.inl i)
 | .str x=>some (.inr x)
 | _=>none
def iz:Bool->PV->Option (List bE)
 | false,p=>(BH p).map λk=>[k]
 | true,.nd .aq a=>if a.length<1000 then dj BH a else none
 | true,_=>none
noncomputable def kn(k:List bE)(ks:List (List bE)):Bool:=ks.any λj=>decide (j=k)
noncomputable def gM(k:List bE):List (List bE)->List PV->Option PV
 | j::ks,p::a=>if j=k then some p else gM k ks a
 | _,_=>none
noncomputable def zb(k:List bE)(q:PV):List (List bE)->List PV->List PV
 | j::ks,p::a=>(if j=k then q else p)::zb k q ks a
 | _,a=>a
def uf:zb k q [] ps=ps:=by cases ps<;>rfl
def m4(t:Bool)(k:List bE)(q:PV)(ks:List (List bE))(ps:List PV):aw:=if kn k ks=true then⟨.fJ t ks,zb k q ks ps⟩else⟨.fJ t (ks++[k]),ps++[q]⟩
section
variable {K:W.Frag} {F:Fz}
def ug(h:BH p=some k)(b:bZ K F p v):v=kV k:=by
 cases p<;>cases h
 ·exact aH.mp b
 ·exact cZ.mp b
theorem wO:∀{ps:List PV} {ks:List bE} {vs:List V},dj BH ps=some ks->aG K F ps vs->vs=ks.map kV
 | [],_,_,h,b=>by cases h;exact b.c5
 | _::_,_,_,h,b=>by
  obtain⟨k,r,a,c,rfl⟩:=gC h;obtain⟨v,w,rfl,d,b2⟩:=b.cG;rw[ug a d,wO c b2];rfl
def k0(h:iz false p=some k)(b:bZ K F p v):∃j,k=[j]/\v=kV j:=by
 obtain⟨j,e,rfl⟩:=bt h;exact⟨j,rfl,ug e b⟩
def k8(h:iz true p=some k)(b:bZ K F p v):∃c,v=.ref c/\iG K F.F c (k.map kV):=by
 unfold iz at h;split at h
 ·grind
 ·obtain⟨_,h⟩:=b9 h;obtain⟨c,e,rfl,a,d⟩:=cR.mp b;rw[wO h d]at a;exact⟨c,rfl,a⟩
 ·cases h
theorem pZ(j:bE):∀kvs:List (bE×V),kn [j] (kvs.map λy=>[y.1])=(kj kvs j).isSome
 | []=>rfl
 | (i,v)::r=>by
  have ih:=pZ j r;unfold kn at ih ⊢;rw[aO,jG,ih];by_cases h:i=j
  ·subst h;rw[nU rfl];simp
  ·rw[nV h];simp[h]
theorem zc:∀{kvs:List (bE×V)} {ps:List PV} {p:PV},gM [j] (kvs.map λy=>[y.1]) ps=some p->aG K F ps (kvs.map (·.2))->∃v,kj kvs j=some v/\bZ K F p v
 | [],_,_,h,_=>by cases h
 | (i,v)::r,[],_,h,_=>by cases h
 | (i,v)::r,q::ps,p,h,b=>by
  obtain⟨d,w,e,c,b2⟩:=b.cG;cases e;have h:(if [i]=[j]then some q else gM [j] (r.map λy=>[y.1]) ps)=some p:=h
  by_cases a:i=j
  ·subst a;rw[if_pos rfl]at h;cases h;exact⟨v,nU rfl,c⟩
  ·rw[if_neg (by grind)]at h
   rw[nV a];exact zc h b2
def Mc(a:bZ K F q v)(b:aG K F ps (kvs.map (·.2))) :
  ∃c d,m4 false [j] q (kvs.map λy=>[y.1]) ps=⟨.fJ false c,d⟩/\(putK kvs j v).map (λy=>[y.1])=c/\aG K F d ((putK kvs j v).map (·.2)):=by
 unfold m4 putK;rw[pZ,tO];cases e:(kj kvs j).isSome with
 | false=>exact⟨_,_,rfl,by simp,by simpa using b.append (.cons a .nil)⟩
 | true =>
  refine⟨_,_,rfl,?_,?_⟩
  ·rw[if_pos rfl,cy];exact List.map_congr_left λy _=>by grind
  ·rw[if_pos rfl];clear e;induction kvs generalizing ps with
   | nil=>rw[pO,uf];exact b
   | cons y r ih =>
    cases ps with
    | nil=>have:=b.length;simp at this
    | cons p ps =>
     obtain⟨h,w,e,g,b2⟩:=b.cG;simp only[aO,Ed]at e;obtain⟨rfl,rfl⟩:=e;have ih:=ih b2;by_cases f:y.1=j
     ·simpa only[aO,zb,f,iZ]using aG.cons a ih
     ·have:¬ [y.1]=[j]:=by grind
      simpa only[aO,zb,f,this,fF]using aG.cons g ih
def ET(k:List bE)(xs:List (List bE×Addr×Value)):kn k (xs.map (·.1))=(atKey xs k).isSome:=(IW xs k).symm
theorem G0:∀{xs:List (List bE×Addr×Value)} {ps:List PV} {vs:List V} {p:PV},gM k (xs.map (·.1)) ps=some p->aG K F ps vs->Vals vs (xs.map (·.2.2))->∃a r v,atKey xs k=some (a,r)/\RelV v r/\bZ K F p v
 | [],_,_,_,h,_,_=>by cases h
 | x::r,[],_,_,h,_,_=>by cases h
 | x::r,q::ps,vs,p,h,b,e=>by
  obtain⟨f,w,rfl,g,b2⟩:=b.cG;cases e with
  | cons i j =>
   have h:(if x.1=k then some q else gM k (r.map (·.1)) ps)=some p:=h
   by_cases c:x.1=k
   ·rw[if_pos c]at h;cases h;exact⟨x.2.1,x.2.2,f,by simp[atKey,c],i,g⟩
   ·rw[if_neg c]at h;obtain⟨a,l,v,d,m,o⟩:=G0 h b2 j;exact⟨a,l,v,by unfold atKey at d ⊢;rw[sP,mK c];exact d,m,o⟩
def WE(l:bZ K F q v)(m:RelV v r)(hc:iG K F.F c (k.map kV))(hk:fY K F.F xs)(b:aG K F ps vs)(f:Vals vs (xs.map (·.2.2))) :
  ∃o t d,m4 true k q (xs.map (·.1)) ps=⟨.fJ true o,t⟩/\(storedH xs k c r).map (·.1)=o/\fY K F.F (storedH xs k c r)/\aG K F t d/\Vals d ((storedH xs k c r).map (·.2.2)):=by
 unfold m4 storedH;rw[ET];cases e:(atKey xs k).isSome with
 | false =>
  refine⟨_,_,vs++[v],rfl,by simp,λx a=>?_,b.append (.cons l .nil),by simpa using f.append (.cons m .nil)⟩
  simp only[jF,fF,bI,aV]at a;rcases a with a | rfl
  ·exact hk x a
  ·exact hc
 | true =>
  simp only[iZ];have u:(xs.map (putAt k r)).map (·.1)=xs.map (·.1):=by
   rw[cy];exact List.map_congr_left λy _=>by simp only[Function.comp,putAt];split<;>rfl
  have g:fY K F.F (xs.map (putAt k r)):=λx a=>by
   obtain⟨y,B,rfl⟩:=aE.mp a;have:=hk y B;unfold putAt;split<;>exact this
  suffices h:∃d,aG K F (zb k q (xs.map (·.1)) ps) d/\Vals d ((xs.map (putAt k r)).map (·.2.2)) by
   obtain⟨d,i,j⟩:=h;exact⟨_,_,d,rfl,u,g,i,j⟩
  clear e hk u g;induction xs generalizing ps vs with
  | nil=>exact⟨vs,by rw[pO,uf];exact b,f⟩
  | cons x xs ih =>
   cases ps with
   | nil=>rw[b.c5]at f;cases f
   | cons p ps =>
    obtain⟨C,w,rfl,D,b2⟩:=b.cG;cases f with
    | cons E H =>
     obtain⟨d,i,j⟩:=ih b2 H;by_cases a:x.1=k
     ·exact⟨v::d,by simpa only[aO,zb,a,iZ]using aG.cons l i,by simpa only[aO,putAt,a,iZ]using Paired.cons m j⟩
     ·exact⟨C::d,by simpa only[aO,zb,a,fF]using aG.cons D i,by simpa only[aO,putAt,a,fF]using Paired.cons E j⟩
end
def bO:G2:=λh p q=>match p with
 | .str z=>(oh q).bind λi=>if z.length<=gu then(lF z.cps.toList i).map λc=>.str ⟨#[c]⟩else none
 | p=>match cS h p with
  | some (.aq,a)=>(oh q).bind (lF a)
  | some (.lst,a)=>(oh q).bind (lF a)
  | some (.fJ t ks,a)=>(iz t q).bind λk=>gM k ks a
  | _=>none
section
variable {X:Cx} {aa:Hp} {ab:Fz} {a b e:Expr} {fa fb:Gx PV} {pos:Pos}
def ixT(hu:X.A.units+1150<cLine):Y6 X (rT X.K bO):=by
 rintro value slice L s σ H x y v u Q I C f ⟨aa,ab,F,st,τ,pa,pb,p,e,R,M,g,k⟩ D
 have more:(match cS st.h pa with
  | some (.aq,m)=>(oh pb).bind (lF m)
  | some (.lst,m)=>(oh pb).bind (lF m)
  | some (.fJ t ks,m)=>(iz t pb).bind λk=>gM k ks m
  | _=>none)=some p->wpAny (model X.prog X.w) X.A (subscriptTail value slice v u) (EP X L σ Q) X.xe s:=λe=>by
  split at e
  ·rename_i z;obtain⟨i,e1,d⟩:=aZ e;rw[gD e1]at g;rw[aH.mp g]at f;obtain⟨a,N,rfl,q,B⟩:=R.at z M;obtain⟨w,hw,l⟩:=B.lF d;exact VY value slice L s σ H _ _ v u Q I C f ⟨a,N,_,w,rfl,rfl,q.2,hw,k _ H F R (Gr.refl F) l⟩ D
  ·rename_i z;obtain⟨i,e1,d⟩:=aZ e;rw[gD e1]at g;rw[aH.mp g]at f;obtain⟨a,N,rfl,q,B⟩:=R.at z M;obtain⟨w,hw,l⟩:=B.lF d;exact QA value slice L s σ H _ _ v u Q I C f ⟨a,N,_,w,rfl,rfl,lB.sq q,hw,k _ H F R (Gr.refl F) l⟩ D
  ·rename_i t ks m z;obtain⟨kk,e1,d⟩:=aZ e;obtain⟨a,N,rfl,q,B⟩:=R.at z M;cases C;cases t with
   | false =>
    obtain⟨kvs,T,Y,g3⟩:=q;obtain⟨j,rfl,rfl⟩:=k0 e1 g;subst Y g3;obtain⟨w,hw,l⟩:=zc d B;obtain⟨_,hd,us,Jj,Z⟩:=GO I.hok (.inl T);have E:=Jj.val j;rw[hw]at E;cases hv:valueAt us j with
    | none=>rw[hv]at E;exact E.elim
    | some u' =>
     rw[hv]at E;exact tail_any Z.typeIs PySem.F.slot_dict_getitem.lookup (wpAny_getItem_of (tP f) Z.mapOf hv ⟨w,H,I.tok _,E,k _ H F R (Gr.refl F) l⟩) D
   | true =>
    obtain⟨xs,T,Y,g3,g4⟩:=q;obtain⟨c,rfl,hc⟩:=k8 e1 g;cases f;subst g3;obtain⟨ad,r,w,hw,VX,l⟩:=G0 d B g4;obtain⟨_,hd,Z⟩:=wI I (.inl T) (λz J=>bD R.sub (Y z J))
    obtain⟨o,_,_,ho,hx,_⟩:=id Z;refine tail_any ⟨o,ho,hx.1⟩ PySem.F.slot_dict_getitem.lookup (aao (by lia) I (.inl T) (λz J=>bD R.sub (Y z J)) (bD R.sub hc) hw λs' I'=>⟨w,H,I',VX,k _ H F R (Gr.refl F) l⟩) D
  ·cases e
 cases pa with
 | str z =>
  obtain⟨i,e1,d⟩:=aZ e;rw[gD e1]at g;obtain⟨J,d⟩:=b9 d;obtain⟨c,e3,rfl⟩:=bt d;rw[cZ.mp M]at C;rw[aH.mp g]at f;exact VZ value slice L s σ H _ _ v u Q I C f ⟨z,i,c,rfl,rfl,gh J,e3,k _ H F R (Gr.refl F) (cZ.mpr rfl)⟩ D
 | bM=>exact more e
 | bl _=>exact more e
 | int _=>exact more e
 | ref _=>exact more e
 | fn _=>exact more e
 | nd _ _=>exact more e
def afa(c:X.A.units+1150<cLine)(d:PE X a (tE X aa ab fa))(f:PE X b (tE X aa ab fb))(g:rF b):PE X (.Subscript a b pos) (tE X aa ab (op2 bO fa fb)):=(Tw (ixT c) d f g).imp λ_ _ _ h=>rK h
def kq(n:Bool):G2:=λh p q=>match cS h q with
 | some (.fJ t ks,_)=>(iz t p).map λk=>.bl (if n=true then !kn k ks else kn k ks)
 | _=>(EO h q).bind λc=>(Ks h p c).map λb=>.bl (if n=true then !b else b)
def WG(r:X.A.units+1150<cLine):wJ X (compareOp .In) (kq false):=by
 rintro J s σ H x y v u Q I d l ⟨aa,ab,F,st,L,M,N,p,e,R,f,m,k⟩
 unfold kq at e;split at e
 ·rename_i t ks T z;obtain⟨Y,e1,rfl⟩:=bt e;obtain⟨a,Z,rfl,o,jR⟩:=R.at z m;cases l;cases t with
  | false =>
   obtain⟨g,h,i,q⟩:=o;obtain⟨j,rfl,rfl⟩:=k0 e1 f;obtain⟨_,hd,us,w,B⟩:=GO I.hok (.inl h);refine wpAny_in_of (tP d) hd B.mapOf ⟨.bl (kj g j).isSome,H,I.tok _,?_,k _ H F R (Gr.refl F) (cj.mpr ?_)⟩
   ·rw[(w.val j).wG];rfl
   ·rw[<-i,pZ];rfl
  | true =>
   obtain⟨xs,h,i,q,g4⟩:=o;obtain⟨c,rfl,hc⟩:=k8 e1 f;cases d;exact aam (by lia) I (.inl h) (λz C=>bD R.sub (i z C)) (bD R.sub hc) λs' D=>⟨.bl _,H,D,rfl,k _ H F R (Gr.refl F) (cj.mpr (by rw[<-q,ET];rfl))⟩
 ·obtain⟨qs,e1,e⟩:=aZ e;obtain⟨b,E,rfl⟩:=bt e;exact(Ma r I d l R f m e1 E).1 (k _ H F R (Gr.refl F) (cj.mpr rfl))
def Jk(r:X.A.units+1150<cLine):wJ X (compareOp .NotIn) (kq true):=by
 rintro J s σ H x y v u Q I d l ⟨aa,ab,F,st,L,M,N,p,e,R,f,m,k⟩
 unfold kq at e;split at e
 ·rename_i t ks T z;obtain⟨Y,e1,rfl⟩:=bt e;obtain⟨a,Z,rfl,o,jR⟩:=R.at z m;cases l;cases t with
  | false =>
   obtain⟨g,h,i,q⟩:=o;obtain⟨j,rfl,rfl⟩:=k0 e1 f;obtain⟨_,hd,us,w,B⟩:=GO I.hok (.inl h);refine wpAny_notIn_of (tP d) hd B.mapOf ⟨.bl (!(kj g j).isSome),H,I.tok _,?_,k _ H F R (Gr.refl F) (cj.mpr ?_)⟩
   ·rw[(w.val j).wG];rfl
   ·rw[<-i,pZ];rfl
  | true =>
   obtain⟨xs,h,i,q,g4⟩:=o;obtain⟨c,rfl,hc⟩:=k8 e1 f;cases d;exact aan (by lia) I (.inl h) (λz C=>bD R.sub (i z C)) (bD R.sub hc) λs' D=>⟨.bl _,H,D,rfl,k _ H F R (Gr.refl F) (cj.mpr (by rw[<-q,ET];rfl))⟩
 ·obtain⟨qs,e1,e⟩:=aZ e;obtain⟨b,E,rfl⟩:=bt e;exact(Ma r I d l R f m e1 E).2 (k _ H F R (Gr.refl F) (cj.mpr rfl))
end
def Me:G2:=λ_ p q=>match q with | .bM=>some (.bl (!ue p)) | _=>none
def Rc:wJ X (compareOp .IsNot) Me:=by
 rintro a s σ H x y v u Q I b c ⟨g,h,F,st,i,j,l,p,e,R,d,f,k⟩
 unfold Me at e;split at e
 ·cases e;exact PK a s σ H x y v u Q I b c ⟨dA.mp f,k _ H F R (Gr.refl F) (cj.mpr (by rw[GW d]))⟩
 ·cases e
def EU:CmpOp->Option G2
 | .Eq=>some jB
 | .NotEq=>some L8
 | .Lt=>some L5
 | .LtE=>some leO
 | .GtE=>some geO
 | .Is=>some isO
 | .IsNot=>some Me
 | .In=>some (kq false)
 | .NotIn=>some (kq true)
 | _=>none
def lJ(a:X.A.units+1150<cLine)(h:EU op=some g):wJ X (compareOp op) g:=by
 have b:∀i j:Int,(λ_ _=>true) i j=true->(λ_ _=>True) i j:=by grind
 cases op<;>cases h
 ·exact Ww a
 ·exact Wx a
 ·exact hJ (BE ZW) b λ_ _ _=>cj.mpr rfl
 ·exact hJ (BE ZX) b λ_ _ _=>cj.mpr rfl
 ·exact hJ (BE ZY) b λ_ _ _=>cj.mpr rfl
 ·exact Wz
 ·exact Rc
 ·exact WG a
 ·exact Jk a
end L2.U
namespace L2
open PySem PySem.Spec PyProof.Rows
section
variable {X:Cx}
def Mf:PE X (.Dict [] [] pos) (TL (.dK [])):=λa s b H Q I h =>
 wpAny_Dict_empty ⟨.ref s.heap.objs.size,_,I.laid (o:=.dK []) (λ_ _ q=>bj _ q) (au _)
  ⟨dn _,fV.mpr (dF (bK (tQ I))),[],.nil,Heap.DictOf.new s.heap⟩,rfl,h _ (I.hok.fresh (au _))⟩
def aaV:V->List V->Hp->VK->Prop:=λx c H Q=>∃a b k y,x=.ref a/\c=[kV k,y]/\H a=some (.dK b)/\b.length<sizeLine/\(∀v,kj b k=some v->Q v H)/\(kj b k=none->Q y (cC H a (.dK (b++[(k,y)]))))
def WH:Z8 X "dict.setdefault" aaV:=by
 intro N s R H x T v Y Q I m p h;obtain⟨a,b,k,y,rfl,rfl,e,r,t,u⟩:=h;cases m;obtain⟨Z,B,rfl,C,g⟩:=p.two;obtain⟨z,hd,D,f,i⟩:=TK I.hok e;refine call_meetsIn KH i.typeIs PySem.F.entry_dict_setdefault (PySem.F.args_dict_setdefault_3 _ _ _) (kt_meets_setdefault (cB X.prog X.w) a (tP C) hd B) ⟨D,i,by rw[<-f.length];exact z,λw hw=>?_,λE J j L=>?_⟩
 ·have rk:=f.val k;rw[hw]at rk;cases d:kj b k with
  | none=>rw[d]at rk;exact rk.elim
  | some v0=>rw[d]at rk;exact⟨v0,H,I.tok _,rk,t v0 d⟩
 ·have rk:=f.val k;rw[E]at rk;have d:kj b k=none:=by
   cases d:kj b k with
   | none=>rfl
   | some v0=>rw[d]at rk;exact rk.elim
  have l:=f.put k g;rw[LY y d]at l;have he:∃q,J.get? a=some q:=let ⟨q,_,_,M,_⟩:=j;⟨q,M⟩
  exact⟨y,_,I.write (o:=.dK (b++[(k,y)])) (by rw[e];exact True.intro) (.inl rfl) (λc q' hc z=>(L.2 c hc).trans z) he ⟨by rw[aX];exact r,hd,_,l,j⟩,g,u d⟩
def G1:V->List V->Hp->VK->Prop:=λx a H Q=>∃(l:Addr) (xs:List V) (i:Int) (y:V),x=.ref l/\a=[.int i,y]/\H l=some (.lst xs)/\xs.length<sizeLine/\0<=i/\i<=1000000/\Q .bM (cC H l (.lst (xs.take i.toNat++y::xs.drop i.toNat)))
def WI(c:0<=i)(d:i<=1000000):¬(!Builtin.List.listFitsIndex i)=true:=by
 unfold Builtin.List.listFitsIndex;have a:decide (-(2^63:Int)<=i)=true:=by grind
 have b:decide (i<2^63)=true:=by grind
 rw[a,b];simp
noncomputable def aaW(i:Int)(u:Value):Array Value->Array Value:=λa=>have k:=if i<0 then(i+((a.size:Nat):Int)).toNat else min i.toNat a.size;(a.extract 0 k).push u++a.extract k
def Rg(e:0<=i)(a:List Value)(u:Value):aaW i u a.toArray=(a.take i.toNat++u::a.drop i.toNat).toArray:=by
 unfold aaW;have b:¬i<0:=by lia
 simp only[b,fA];apply Array.ext';simp only[List.extract_eq_drop_take];by_cases c:i.toNat<=a.length
 ·rw[Nat.min_eq_left c];have d:List.take (a.length-i.toNat) (List.drop i.toNat a)=List.drop i.toNat a:=pj (by grind)
  simp[d]
 ·grind
def Jl:MtM X "list.insert" G1:=by
 intro m s o H x p v u Q I f g h;obtain⟨l,w,i,y,rfl,rfl,a,B,b,j,q⟩:=h;cases f;obtain⟨C,c,rfl,⟨t,rfl⟩,k⟩:=g.two;obtain⟨z,d,n,r,D,e⟩:=I.iH a;have E:=r.length;have J:=I.QC (t':=s.toks) a e (Rg b d c) ((r.take i.toNat).append (.cons k (r.drop i.toNat))) (by grind)
 exact mQ F.slot_list_insert ⟨_,e,rfl⟩ F.entry_list_insert (F.args_list_insert_3 _ _ _) (@PySem.AutoListH.list_insert_list_int_val_1 l d.toArray n i t c (WI b j) (by grind)) ⟨e,.bM,_,J,rfl,q⟩
def WJ(K:W.Frag):V->List V->Hp->VK->Prop:=λx d H Q=>∃l b c a,x=.ref l/\d=[.ref b]/\H l=some (.lst c)/\(iG K H b a\/lB K H b a)/\c.length+a.length<=sizeLine/\Q .bM (cC H l (.lst (c++a)))
def zg(l:Addr)(a:Array Value)(n:Nat)(b:Addr)(more:Array Value)(e:Nat)(f:Option Addr)(i:Array (Option Value))(m:¬(!a.isEmpty&&Builtin.List.listTooLong (a.size+more.size))=true)(h1:a.size<=sizeLine)(j:a.size+more.size<=sizeLine+1) :
  Meets (Builtin.«list.extend» ⟨[.ref l,.ref b],[]⟩) (λ_ R s=>s.heap.get? l=some {cls:=.type "list",dict:=none,data:=.seq a n,slots:=#[]}/\s.heap.get? b=some {cls:=.type "tuple",dict:=f,data:=.seq more e,slots:=i} /\
   R (.ok (.ret Value.none)) {s with heap:=s.heap.update l (Obj.mapSeq λx=>x++more),toks:=s.toks}) :=
 .of_wp λprog w A R s h=>by
  obtain⟨hp,g,d,o,p⟩:=s;obtain⟨c,k,h⟩:=h;have q:=AutoSeq1.idx_int;have r:=AutoSeq1.sub_tuple_tuple;have t:=AutoSeq1.sub_list_list;have u:=AutoSeq1.sub_tuple_list;have v:=AutoSeq1.sub_list_tuple
  wp_walk using (wpAny_updateSeq c rfl (_hz':=(by rw[Array.size_append];exact j))),kB c,kB k
  exact⟨_,rfl,h⟩
def WK:MtM X "list.extend" (WJ X.K):=by
 intro w s y H x R v T Q I B C h;obtain⟨l,b,Y,D,rfl,rfl,t,f,Z,q⟩:=h;cases B;obtain⟨u,rfl,E⟩:=C.one;cases E;obtain⟨z,c,n,r,hl,e⟩:=I.iH t;have go:∀a,Vals D a->(¬(!c.toArray.isEmpty&&Builtin.List.listTooLong (c.toArray.size+a.toArray.size))=true/\c.toArray.size<=sizeLine/\c.toArray.size+a.toArray.size<=sizeLine+1) /\
   EP X w y Q Value.none {s with heap:=s.heap.update l (Obj.mapSeq λx=>x++a.toArray),toks:=s.toks}:=λa d=>by
  have Zc:=d.length;have g:c.toArray.size+a.toArray.size<=sizeLine:=by grind
  refine⟨⟨?_,by grind,(DP ‹_›)⟩,.bM,_,I.QC t e (by simp) (r.append d) (by grind),rfl,q⟩
  rw[LJ g,Bool.and_false];exact dv
 rcases f with f | f
 ·obtain⟨a,d,⟨⟨J,L,M,N⟩,i,hc,j,hd⟩,_⟩:=I.tuple f;simp only at hc hd;subst hc hd;obtain⟨⟨k,m,o⟩,p⟩:=go a d;exact mQ F.slot_list_extend ⟨_,e,rfl⟩ F.entry_list_extend (F.args_list_extend_2 _ _) (zg l c.toArray n b a.toArray j L N k m o) ⟨e,i,p⟩
 ·obtain⟨a,j,d,i,_⟩:=I.GR f;obtain⟨⟨k,m,o⟩,p⟩:=go a d;exact mQ F.slot_list_extend ⟨_,e,rfl⟩ F.entry_list_extend (F.args_list_extend_2 _ _) (AutoSeq1.list_extend_list_list_0 l c.toArray n b a.toArray j k m o) ⟨e,i,p⟩
def G3(kvs:List (bE×V))(k:bE)(v:V):(putK kvs k v).length<=kvs.length+1:=by
 unfold putK;split
 ·grind
 ·grind
def aaX:Li:=λo i v H Q=>∃a b k,o=.ref a/\i=kV k/\H a=some (.dK b)/\b.length<sizeLine/\Q (cC H a (.dK (putK b k v)))
def WL:Lj X aaX:=by
 rintro w s σ H o i v x y u Q I g h j ⟨a,b,k,ex,l,e1,B,q⟩
 subst ex l;cases g;obtain⟨z,hd,C,e,m⟩:=TK I.hok e1;refine wpAny_setItem_pairs (tP h) m (λp f d=>?_) (by rw[<-e.length];exact z)
 have r:=e.put k j;have he:∃q,p.get? a=some q:=let ⟨q,_,_,t,_⟩:=f;⟨q,t⟩
 exact⟨_,I.write (o:=.dK (putK b k v)) (by rw[e1];exact True.intro) (.inl rfl) (λc D hc z=>(d.2 c hc).trans z) he ⟨by have:=G3 b k v;lia,hd,_,r,f⟩,q⟩
def aaZ(K:W.Frag):Li:=λo i v H Q=>∃a b c k,o=.ref a/\i=.ref b/\H a=some (.dT c)/\fY K H c/\iG K H b (k.map kV)/\c.length<sizeLine/\∀r,RelV v r->Q (cC H a (.dT (storedH c k b r)))
def WM(c:X.A.units+1<cLine):Lj X (aaZ X.K):=by
 rintro p s σ H o i v r t u Q I d e f ⟨a,b,xs,k,ex,g,e1,h,j,l,q⟩
 subst ex g;cases d;cases e;exact Wb c I e1 h j l λw m=>⟨_,m,q u f⟩
end
end L2
namespace L2.U
open PySem PySem.Spec PyProof.Rows
abbrev MG:=aw->List PV->Option (aw×PV)
def rf(h:List aw):PV->Option (Nat×aw)
 | .ref n=>(h[n]?).bind λc=>if live c=true then some (n,c)else none
 | _=>none
def jo(e:rf h p=some (n,c)):p=.ref n/\h[n]?=some c/\live c=true:=by
 cases p with
 | ref m =>
  obtain⟨d,e1,a⟩:=aZ e;obtain⟨b,f⟩:=aR a;cases f;exact⟨rfl,e1,b⟩
 | _=>cases e
def kr(g:MG)(p:PV)(as:List PV):Gx PV:=λa=>(rf a.h p).bind λc=>(g c.2 as).map λr=>(.ok r.2,⟨a.ρ,a.h.set c.1 r.1⟩)
section
variable {X:Cx} {aa H:Hp} {ab F:Fz} {st:cL} {σ:St}
def BI(K:W.Frag)(r:V->List V->Hp->VK->Prop)(g:MG):Prop:=∀(aa H:Hp) (ab F:Fz) (st:cL) (σ:St) (n:Nat) (c d:aw) (a:Addr) (as:List PV) (ws:List V) (q:PV) (Q:VK),
 Rep K aa ab F st σ H->st.h[n]?=some c->live c=true->F.μ[n]?=some a->g c as=some (d,q)->aG K F as ws->(∀v b e,Rep K aa ab b ⟨st.ρ,st.h.set n d⟩ σ e->Gr F b->bZ K b q v->Q v e)->r (.ref a) ws H Q
def Rep.put(R:Rep X.K aa ab F st σ H){c d:aw}(hc:st.h[n]?=some c)(b:live c=true)(e:F.μ[n]?=some a)(f:lQ X.K F.F (cC H a o) a true d.k vs)(g:aG X.K F d.ps vs) :
  Rep X.K aa ab F ⟨st.ρ,st.h.set n d⟩ σ (cC H a o):=⟨R.c.write hc b e f g,R.l⟩
noncomputable def iH(f:List PV->List PV->Option (List PV)):MG:=λc as=>match c.k with
 | .lst=>(f c.ps as).map λa=>(⟨.lst,a⟩,.bM)
 | _=>none
def zh
  (h:∀(H:Hp) (F:Fz) (ps as b:List PV) (vs ws:List V) (a:Addr) (Q:VK) (h:List aw),cV F.F H->f ps as=some b->H a=some (.lst vs)->aG X.K F ps vs->aG X.K F as ws->(∀e,aG X.K F b e->Q .bM (cC H a (.lst e)))->r (.ref a) ws H Q):BI X.K r (iH f):=by
 intro aa H ab F st σ n c t a as ws q Q R hc g i d l k;unfold iH at d;split at d
 ·rename_i hk;obtain⟨b,e1,m⟩:=bt d;cases m;obtain⟨_,vs,j,o⟩:=R.c.cell n c a hc i g;rw[hk]at j;exact h H F c.ps as b vs ws a Q st.h R.sub e1 j o l λe p=>k _ F _ (R.put hc g i aF p) (Gr.refl _) (dA.mpr rfl)
 ·cases d
def zi:List PV->List PV->Option (List PV):=λa as=>match as with | [p]=>if a.length<gu then some (a++[p])else none | _=>none
def Rh:BI X.K GJ (iH zi):=zh λH F j as l f ws a Q h m c g d e k=>by
 unfold zi at c;split at c
 ·obtain⟨i,rfl⟩:=aR c;obtain⟨v,rfl,b⟩:=dU e;exact⟨a,f,v,rfl,rfl,g,by rw[<-d.length];exact cb i (gh (au _)),k _ (d.append e)⟩
 ·cases c
def Ri:List PV->List PV->Option (List PV):=λa as=>match as with | []=>some a.reverse | _=>none
def Rj:BI X.K Bk (iH Ri):=zh λH F g as i c ws a Q h j b d e f k=>by
 unfold Ri at b;split at b
 ·cases b;exact⟨a,c,rfl,f.c5,d,k _ e.reverse⟩
 ·cases b
def Mg:List PV->List PV->Option (List PV):=λa as=>match as with
 | [.int i,p]=>if(0<=i/\i<=1000000/\a.length<gu)then some (a.take i.toNat++p::a.drop i.toNat)else none
 | _=>none
def Rl:BI X.K G1 (iH Mg):=zh λH F o as p d ws a Q h q b e c f k=>by
 unfold Mg at b;split at b
 ·obtain⟨⟨g,i,j⟩,rfl⟩:=aR b;obtain⟨r,l,rfl,m,b2⟩:=oe f;rw[aH.mp m];exact⟨a,d,_,l,rfl,rfl,e,cb (by rw[<-c.length];exact j) (gh (au _)),g,i,k _ ((c.take _).append (.cons b2 (c.drop _)))⟩
 ·cases b
def BJ(p:PV)(as:List PV):Gx PV:=λst=>match as with
 | [q]=>(EO st.h q).bind λa=>kr (iH λb _=>if b.length+a.length<=gu then some (b++a)else none) p [] st
 | _=>none
def Jm:MG:=λc as=>match c.k,as with
 | .fJ false ks,[a,y]=>(iz false a).bind λk=>if ks.length<gu then(if kn k ks=true then(gM k ks c.ps).map λp=>(c,p)else some (⟨.fJ false (ks++[k]),c.ps++[y]⟩,y))else none
 | _,_=>none
def Rm:BI X.K aaV Jm:=by
 intro aa H ab F st σ n c M a as ws q Q R hc u w g B k;unfold Jm at g;split at g
 ·rename_i ks N y hk;obtain⟨T,e1,d⟩:=aZ g;obtain⟨Y,d⟩:=b9 d;obtain⟨Z,l,rfl,C,b2⟩:=oe B;obtain⟨j,rfl,rfl⟩:=k0 e1 C;obtain⟨_,vs,o,r⟩:=R.c.cell n c a hc w u;have D:=o;rw[hk]at o;obtain⟨b,E,t,I⟩:=o;rw[<-I]at r;refine⟨a,b,j,l,rfl,rfl,E,(by
   have:ks.length=b.length:=by grind
   exact cb (by grind) (gh (au _))),λv m=>?_,λm=>?_⟩
  ·rw[if_pos (by rw[<-t,pZ,m];rfl)]at d
   obtain⟨p,x,J⟩:=bt d;cases J;rw[<-t]at x;obtain⟨v',f,L⟩:=zc x r;rw[m]at f;cases f;have e:st.h.set n c=st.h:=by
    apply List.ext_getElem?;intro i;by_cases hi:n=i
    ·grind
    ·grind
   rw[e]at k;exact k v F H R (Gr.refl _) L
  ·rw[if_neg (by rw[<-t,pZ,m];simp)]at d
   cases d;refine k l F _ (R.put (vs:=b.map (·.2)++[l]) hc u w ⟨b++[(j,l)],aF,by grind⟩ ?_) (Gr.refl _) b2
   exact r.append (.cons b2 .nil)
 ·cases g
def Tx.mut(b:BI X.K r g)(h:Tx X aa ab (bZ X.K) F st (kr g p as) σ Q)(R:Rep X.K aa ab F st σ H)(d:bZ X.K F p v)(e:aG X.K F as ws):r v ws H Q:=by
 obtain⟨q,f,i⟩:=h;obtain⟨⟨n,c⟩,e1,j⟩:=aZ f;obtain⟨⟨k,x⟩,l,m⟩:=bt j;subst m;obtain⟨rfl,hc,o⟩:=jo e1;obtain⟨a,t,rfl⟩:=dQ.mp d;exact b aa H ab F st σ n c k a as ws x Q R hc o t l e λv u w y B C=>i v w u y B C
def Tx.ext{Q:VK}(h:Tx X aa ab (bZ X.K) F st (BJ p as) σ Q)(R:Rep X.K aa ab F st σ H)(l:bZ X.K F p v)(m:aG X.K F as ws):WJ X.K v ws H Q:=by
 obtain⟨x,d,o⟩:=h;unfold BJ at d;split at d
 ·rename_i q;obtain⟨M,r,d⟩:=aZ d;obtain⟨w,rfl,t⟩:=dU m;obtain⟨b,u,rfl,B,f⟩:=R.seq r t;obtain⟨⟨n,c⟩,e1,C⟩:=aZ d;obtain⟨⟨N,y⟩,e,D⟩:=bt C;subst D;obtain⟨rfl,hc,g⟩:=jo e1;obtain⟨a,i,rfl⟩:=dQ.mp l;unfold iH at e;split at e
  ·rename_i hk;obtain⟨T,E,I⟩:=bt e;cases I;obtain⟨J,rfl⟩:=aR E;obtain⟨_,L,j,k⟩:=R.c.cell n c a hc i g;rw[hk]at j;exact⟨a,b,L,u,rfl,rfl,j,B,by rw[<-k.length,<-f.length];exact gh J,o .bM _ F (R.put hc g i aF (k.append f)) (Gr.refl _) (dA.mpr rfl)⟩
  ·cases e
 ·cases d
end
section
variable {prog:Program} {w:World} {A:Around} {R:Result->Shared->Prop} {s:Shared}
abbrev nb(prog:Program)(w:World)(A:Around)(a:Env)(R:Result->Shared->Prop):Value->Shared->Prop:=notedBy (model prog w) A a λe b=>R (.error e) b
noncomputable abbrev G4(b:List Expr)(a:Env):Sem Bool:=forIn b true λc r=>if r=true then do let ok <-isTrue c a (eval c a);pure (ForInStep.yield ok)else pure (ForInStep.yield r)
def Jn(I:Nat->Shared->Prop)
  (mT:∀n s,I n s->wpAny (model prog w) A (pyNext it) (λr s1=>match r with
   | none=>R (.ok .next) s1
   | some v=>wpAny (model prog w) A (letOwnedTupleGo d it v) (λ_ a=>wpAny (model prog w) A (assign d env v) (λ_ s2=>wpAny (model prog w) A (G4 ifs env) (λok b =>
      if ok=true then wpAny (model prog w) A (eval elt env) (λx e=>wpAny (model prog w) A (call (.builtin "list.append") [acc,x]) (λ_ f=>∃m,m<n/\I m f) (nb prog w A env R) e) (nb prog w A env R) b
      else ∃m,m<n/\I m b) (nb prog w A env R) s2) (nb prog w A env R) a) (nb prog w A env R) s1) (nb prog w A env R) s)
  (n:Nat) (h:I n s):codeAny (model prog w) A (.compLoop (.ListComp elt [⟨d,iter,ifs,0⟩] scope pos) 0 it acc env) R s:=by
 refine codeAny_loop rfl I (λn s j=>?_) n h
 refine wpAny_noted ?_;rw[compTurn_list];refine ag (wpAny_standAt (ag (thn (mT n s j) λr s1 g=>?_)))
 cases r with
 | none=>exact aj g
 | some v =>
  refine ag (thn g λ_ a c=>ag (thn c λ_ s2 k=>ag (thn k λok b i=>?_)))
  cases ok with
  | false=>exact aj ⟨rfl,i⟩
  | true=>exact ag (ag (thn i λx e l=>ag (thn l λ_ f o=>aj (aj ⟨rfl,o⟩))))
end
noncomputable def k9(a:Env):List (Str×NameKind)->List (Str×Addr)->List (Str×Addr)
 | [],cs=>cs
 | (n,k)::r,cs=>k9 a r (if k==.free then(match a.cells.lookup n with | some c=>(n,c)::cs | none=>cs)else cs)
def uh(h:∀y∈scope.names,y.2=.free->∃c,env.cells.lookup y.1=some c):closureFor scope env=pure (k9 env scope.names []):=by
 have all:∀(l:List (Str×NameKind)) (cs:List (Str×Addr)),(∀y∈l,y.2=.free->∃c,env.cells.lookup y.1=some c) ->
   (forIn l cs λx r=>(match x with | (name,kind)=>if(kind==NameKind.free)=true then do let a <-cellOf env name;pure (ForInStep.yield ((name,a)::r))else pure (ForInStep.yield r):Sem (ForInStep (List (Str×Addr)))))=pure (k9 env l cs):=by
  intro l;induction l with
  | nil=>intro cs _;rfl
  | cons y l ih =>
   intro cs b;obtain⟨n,k⟩:=y;rw[List.forIn_cons];by_cases hk:k=.free
   ·subst hk;obtain⟨c,hc⟩:=b (n,.free) aM rfl;have e:=hc;have e1:cellOf env n=pure c:=by unfold cellOf;rw[e]
    simp only[e1,k9,e];exact ih _ λy d=>b y (aK _ d)
   ·have f:(k==NameKind.free)=false:=by simpa using hk
    simp only[f,k9];exact ih _ λy d=>b y (aK _ d)
 unfold closureFor;have:=all scope.names [] h;simp only[bind_pure]at this ⊢;exact this
theorem BL:∀(l:List (Str×NameKind)) (cs:List (Str×Addr)) (p:Str×Addr),p∈k9 env l cs->p∈cs\/env.cells.lookup p.1=some p.2
 | [],_,_,h=>.inl h
 | (n,k)::r,cs,p,h=>by
  unfold k9 at h;rcases BL r _ p h with q | q
  ·grind
  ·grind
def cw(h:(k9 env l []).lookup x=some c):env.cells.lookup x=some c:=by
 rcases BL l [] (x,c) (eY h)with q | q
 ·cases q
 ·exact q
theorem wQ:∀(l:List (Str×NameKind)) (cs:List (Str×Addr)),(∃c,(x,c)∈cs)->∃c,(x,c)∈k9 env l cs
 | [],_,h=>h
 | (n,k)::r,cs,⟨c,h⟩=>by
  unfold k9;refine wQ r _ ⟨c,?_⟩;split
  ·grind
  ·exact h
theorem lb:∀(l:List (Str×NameKind)) (cs:List (Str×Addr)),(x,NameKind.free)∈l->(∃c,env.cells.lookup x=some c)->∃c,(x,c)∈k9 env l cs
 | [],_,h,_=>by cases h
 | (n,k)::r,cs,h,hc=>by
  unfold k9;rcases aU.mp h with z | z
  ·cases z;obtain⟨c,e⟩:=hc;refine wQ r _ ⟨c,?_⟩;simp[e]
  ·exact lb r _ z hc
theorem i9:∀{l:List (Str×Addr)},(x,c)∈l->∃a,l.lookup x=some a
 | [],h=>by cases h
 | (n,d)::r,h=>by
  rw[kO];cases b:x==n with
  | true=>exact⟨d,rfl⟩
  | false =>
   rcases aU.mp h with z | z
   ·grind
   ·exact i9 z
def cW(X:Cx)(N:List Str)(a:Scope)(C:Addr)(s:Shared)(H:Hp)(b:List Addr):Cx where
 prog:=X.prog
 w:=X.w
 K:=X.K
 mg:=X.mg
 base:=X.base
 A:=X.A
 N:=N
 s₀:=s
 aa:=H
 env:=compEnvC a (k9 X.env a.names []) C X.env
 aB:=X.stack
 stack:=X.stack
 ex:=b
 fn:=λ_=>false
 calm:=X.calm
 pn:=[]
 xe:=λ_ _=>False
theorem iA{a:Env}:∀(b:List (Str×NameKind)) (x:Str),(b.map fun(n,k)=>if(k==NameKind.free&&a.scope.kind==.function&&a.kindOf n==some .cell)then(n,NameKind.cell)else(n,k)).lookup x =
  (b.lookup x).map λk=>if(k==NameKind.free&&a.scope.kind==.function&&a.kindOf x==some .cell)then NameKind.cell else k
 | [],_=>rfl
 | (n,j)::r,x=>by
  have e:(if(j==NameKind.free&&a.scope.kind==.function&&a.kindOf n==some .cell)=true then(n,NameKind.cell)else(n,j))=(n,if(j==NameKind.free&&a.scope.kind==.function&&a.kindOf n==some .cell)=true then NameKind.cell else j):=by split<;>rfl
  show List.lookup x ((if(j==NameKind.free&&a.scope.kind==.function&&a.kindOf n==some .cell)=true then(n,NameKind.cell)else(n,j))::_)=_
  rw[e,kO,kO];cases c:x==n with
  | true =>
   have d:=bh c;subst d;rfl
  | false=>exact iA r x
def om{b:Env}{a:List (Str×NameKind)}(h:(a.map fun(n,k)=>if(k==NameKind.free&&b.scope.kind==.function&&b.kindOf n==some .cell)then(n,NameKind.cell)else(n,k)).lookup x=some k) :
  a.lookup x=some k\/(k=.cell/\a.lookup x=some .free):=by
 rw[iA]at h;cases z:a.lookup x with
 | none=>rw[z]at h;cases h
 | some j =>
  rw[z]at h;have h:(if(j==NameKind.free&&b.scope.kind==.function&&b.kindOf x==some .cell)=true then NameKind.cell else j)=k:=by grind
  split at h
  ·grind
  ·grind
def zj{b:Env}{a:List (Str×NameKind)}(h:a.lookup x=some .free) :
  (a.map fun(n,k)=>if(k==NameKind.free&&b.scope.kind==.function&&b.kindOf n==some .cell)then(n,NameKind.cell)else(n,k)).lookup x=some .cell \/
  (a.map fun(n,k)=>if(k==NameKind.free&&b.scope.kind==.function&&b.kindOf n==some .cell)then(n,NameKind.cell)else(n,k)).lookup x=some .free:=by
 rw[iA,h];show some (if _ then _ else _)=_\/some (if _ then _ else _)=_
 split
 ·grind
 ·grind
structure jq (X:Cx) (N:List Str) (link:List (Option Nat)) (scope:Scope):Prop where
 kind:scope.kind=.function
 cell:∀y∈scope.names,y.2≠.cell
 names:∀y∈scope.names,y.2=.local->scope.names.lookup y.1=some .local
 free:∀y∈scope.names,y.2=.free->(X.env.kindOf y.1=some .cell\/X.env.kindOf y.1=some .free)
 len:link.length=N.length
 link:∀(i j:Nat) (x:Str),link[i]?=some (some j)->N[i]?=some x->X.N[j]?=some x/\scope.names.lookup x=some .free
noncomputable def g8(link:List (Option Nat))(a:St):St:=link.map λo=>o.bind λj=>(a[j]?).join
section
variable {X:Cx} {ae:List (Addr×Obj)} {σ:St} {H:Hp} {s:Shared}
def Inv.adopt(I:Inv X ae σ H s)(f:H D=none)(h1:X.s₀.heap.objs.size<=D)(g:D≠X.env.locals)(h:∀x c,X.env.cells.lookup x=some c->c≠D)(j:∀p∈X.pn++ae,p.1≠D)
  (ho:gw X.prog X.w (cC H D o) s.heap D o):Inv X ae σ (cC H D o) s:=by
 have ne:∀b u,H b=some u->b≠D:=λb u e z=>by rw[z,f]at e;cases e
 refine I.step (ch:=[D]) (λb a=>?_) (λb u _ _ _ e _=>e) (λb u _ _ _ e _=>⟨u.slots,e⟩) (λb u hc _ n=>?_) (λb u _ e=>⟨u,e⟩)
  (λb d e=>by rw[aJ (ne b _ e)];exact e) (λb u d e=>by rw[aJ (ne b _ e)];exact e) (λb l e=>by rw[aJ (ne b _ e)];exact e) (λm k=>k) (λb u e=>?_) I.bare
 ·have e:b=D:=by simpa using a
  subst e;exact⟨.inr h1,g,h,j⟩
 ·rw[aJ (λz=>hc (by simp[z]))];exact n
 ·by_cases a:b=D
  ·subst a;rw[aF]at e;cases e;exact ho
  ·rw[aJ a]at e;exact(I.hok b u e).yD (λ_ _ _ q=>q) (λc q=>by rw[aJ (ne c _ q)];exact q) (λc d q=>by rw[aJ (ne c _ q)];exact q) λc r v q=>by rw[aJ (ne c _ q)];exact q
def EV{N:List Str}{link:List (Option Nat)}(S:jq X N link scope)(I:Inv X ae σ H s)(g:∀b∈M,yH X ae H b)
  (E:s.heap.objs.size<=C) (Y:h.Ns C λ_=>none) (hk:∀b o,s.heap.get? b=some o->h.get? b=some o) (J:∀b∈M,∃o,s.heap.get? b=some o) :
  Inv (cW X N scope C s H M) [] (g8 link σ) H {s with heap:=h,toks:=tk}:=by
 have Q:∀y∈scope.names,y.2=.free->∃c,X.env.cells.lookup y.1=some c:=λy Z t=>I.ok.has y.1 (S.free y Z t)
 have afc:∀x c,X.env.cells.lookup x=some c->c<s.heap.objs.size:=λx c e=>let ⟨v,o,ho,_⟩:=I.cell x c e;bf ho
 refine⟨⟨I.ok.mod,S.kind,I.ok.glob,I.ok.blt,E,λx y c B h2=>I.ok.inj x y c (cw B) (cw h2),λx L=>?_,λx c L=>(by cases L),I.ok.hd,I.ok.frames,.inl rfl,λb k=>⟨?_,λx c e=>(g b k).2.2.2.2.1 x c (cw e)⟩,I.bs,bA I.ok.bsz I.sz,
  λb o e k=>?_,λb k z=>?_,I.stack,I.yF,I.tabs⟩,rfl,I.bare,Un.kept hk,⟨_,Y,λi x v e1 f e3=>?_⟩,λx c e=>?_,I.hok.fresh E,λx c e=>I.freeC x c (cw e),λp hp=>(by cases hp),I.hok.kept hk,by unfold g8;rw[ao];exact S.len⟩
 ·-- Tf cells are there
  have EN:=L;have t:scope.names.lookup x=some .free:=by
   rcases EN with B | B
   ·rcases om B with q | ⟨_,q⟩
    ·exact absurd rfl (S.cell _ (eY q))
    ·exact q
   ·rcases om B with q | ⟨z,_⟩
    ·exact q
    ·cases z
  have w:=eY t;obtain⟨c,hc⟩:=lb scope.names [] w (Q _ w rfl);exact i9 hc
 ·intro z;obtain⟨o,ho⟩:=J b k;exact absurd (cb (bf ho) (bA E (gW z.symm))) (gU _)
 ·rcases(g b k).2.2.2.1 with z | z
  ·exact I.ok.noex b o e z
  ·exact absurd (cb (bf e) (bA I.ok.bsz z)) (gU _)
 ·rcases aU.mp (I.yE b z)with q | q
  ·exact(g b k).2.1 q
  ·exact(g b k).2.2.1 q
 ·-- a slot: agZ over from Tf afd
  have R:i<link.length:=by
   have:=(bW.mp f).1;unfold g8 at this
   rwa [ao]at this
  unfold g8 at f;rw[bP,b6 R]at f;have f:=cD f;cases z:link[i]with
  | none=>rw[z]at f;cases f
  | some j =>
   rw[z]at f;have f:(σ[j]?).join=some v:=f;obtain⟨hX,t⟩:=S.link i j x (by rw[b6 R,z]) e1
   have w:=eY t;have D:=S.free _ w rfl;obtain⟨m,hn,hl⟩:=I.loc;obtain⟨u,r,l⟩:=hl j x v hX (by
    cases q:σ[j]? with
    | none=>rw[q]at f;cases f
    | some q'=>rw[q]at f;cases q' with
     | none=>cases f
     | some v'=>cases f;rfl) (by rcases D with q | q;exact .inr (.inl q);exact .inr (.inr q))
   refine⟨u,r,.inr ⟨zj t,?_⟩⟩;obtain⟨c,hc⟩:=lb scope.names [] w (Q _ w rfl);obtain⟨c',T⟩:=i9 hc;refine⟨c',T,?_⟩;rcases l with⟨lk,_⟩ | ⟨_,d,hd,kU⟩
   ·rcases D with q | q<;>(rw[show X.env.kindOf x=some .local from lk]at q;cases q)
   ·have:=cw T;rw[hd]at this;cases this;exact kU.keeps hk
 ·obtain⟨v,o,ho,hd⟩:=I.cell x c (cw e);exact⟨v,o,hk _ _ ho,hd⟩
end
abbrev TB:=V->St->Hp->(Option V->St->Hp->Prop)->Prop
def PB(X:Cx)(h:Expr)(c:List Expr)(d:Expr)(i:TB):Prop :=
 ∀(e:List (Addr×Obj)) (s:Shared) (σ:St) (H:Hp) (v:V) (u:Value) (Q:Option V->St->Hp->Prop),Inv X e σ H s->RelV v u->i v σ H Q ->
  wpAny (model X.prog X.w) X.A (assign h X.env u) (λ_ j=>wpAny (model X.prog X.w) X.A (G4 c X.env) (λok f =>
   if ok=true then wpAny (model X.prog X.w) X.A (eval d X.env) (λy k=>∃g a b,Inv X e a b k/\RelV g y/\Q (some g) a b) X.xe f
   else ∃a b,Inv X e a b f/\Q none a b) X.xe j) X.xe s
def Mh(f:PG X i g)(he:PE X elt j):PB X i [] elt (λv b H Q=>g v b H λa c=>j a c λy d=>Q (some y) a d):=by
 intro e s b H v u Q I r h;refine thn (f e s b H v u _ I r h) λ_ s2 ⟨a,c,k,l⟩=>aj ?_
 rw[if_pos rfl];exact thn (he e s2 a c _ k l) (by rintro y s4 ⟨m,d,o,p,q⟩;exact⟨m,a,d,o,p,q⟩)
def Rq(m:PG X o g)(hc:PT X c p)(he:PE X elt q) :
  PB X o [c] elt (λv f H Q=>g v f H λa i=>p a i λb d=>if b=true then q a d λy j=>Q (some y) a j else Q none a d):=by
 intro k s f H v u Q I r h;refine thn (m k s f H v u _ I r h) λ_ s2 ⟨a,i,t,w⟩=>?_
 refine wpAny_tests_one (thn (hc k s2 a i _ t w) λb s3 ⟨d,l,e⟩=>?_)
 cases b with
 | true =>
  rw[if_pos rfl]at e ⊢;exact thn (he k s3 a d _ l e) (by rintro y s4 ⟨x,j,B,C,D⟩;exact⟨x,a,j,B,C,D⟩)
 | false =>
  rw[if_neg dv]at e ⊢;exact⟨a,d,l,e⟩
def wR(link:List (Option Nat))(g:TI)(h:TB):TE:=λc H Q=>g c H λJ j=>∃W:Nat->Nat->List V->St->Hp->Prop,(∃m,W 0 m [] (g8 link c) j)/\∀i m a d b,W i m a d b ->
 (J.stop i b/\a.length<=sizeLine/\∀D,b D=none->Q (.ref D) (cC b D (.lst a))) \/
 (J.go i b/\a.length<sizeLine/\∀x e,J.yld i b x e->h x d e λo k l=>∃f,f<m/\W (i+1) f (a++o.toList) k l)
structure afe (X:Cx) (ae:List (Addr×Obj)) (H:Hp) (C:Addr):Prop where
 free:H C=none
 above:X.s₀.heap.objs.size<=C
 loc:C≠X.env.locals
 cell:∀x c,X.env.cells.lookup x=some c->c≠C
 pin:∀p∈X.pn++ae,p.1≠C
def wU(hc:X.calm=true)(S:jq X N link scope)(hi:PI X tg iter wi)
  (hb:∀(C:Addr) (s:Shared) (H:Hp) (g:List Addr),PB (cW X N scope C s H g) tg ifs elt tb) (hs:∀x,foldedSetIterable iter X.env x=pure x) (I:Inv X ae σ H s) (h:wR link wi tb σ H Q)
  (aff:∀(s5:Shared) (D C:Addr) (H5:Hp) (m:Str->Option Value),Inv X ae σ H5 s5->Q (.ref D) H5->s5.heap.Ns C m->afe X ae H5 C->compPost (model X.prog X.w) X.A X.xe use Q' (.ref D) C (.ok .next) s5) :
  wpAny (model X.prog X.w) X.A (comprehension (.ListComp elt [⟨tg,iter,ifs,0⟩] scope pos) scope X.env vo (newList []) false (eval iter X.env) use) Q' X.xe s:=by
 have A9:∀y∈scope.names,y.2=.free->∃c,X.env.cells.lookup y.1=some c:=λy hy hf=>I.ok.has y.1 (S.free y hy hf)
 refine wpAny_comprehension_free rfl hs (uh A9) S.kind S.names (thn (hi ae s σ H _ I h) λv s1 h1=>thn h1 λitv f h2=>?_)
 obtain⟨it,g,tn,J,k,rfl,l,T,st2,f2,W,⟨m0,w0⟩,mT⟩:=h2;refine gy (wpAny_newFunctionEnv S.cell (by grind) (λIX ns sb=>?_) S.kind)
 dsimp only at ns sb ⊢
 generalize hD:f.heap.push {cls:=.type "list",dict:=none,data:=.seq [].toArray}=HD at ns sb ⊢
 have hC:HD.objs.size=f.heap.objs.size+1:=by rw[<-hD,pH]
 have L:f.heap.objs.size≠HD.objs.size:=by grind
 have Mi:f.heap.objs.size<=HD.objs.size:=by grind
 have old:∀b o,f.heap.get? b=some o->IX.get? b=some o:=λb o e=>by
  have gg:=bf e;exact sb.extBut b o (bK (cb gg Mi)) (bj _ (by rw[<-hD];exact bj _ e))
 have afg:IX.get? f.heap.objs.size=some {cls:=.type "list",data:=.seq [].toArray} :=
  sb.extBut _ _ L (bj _ (by rw[<-hD];exact cx _ rfl))
 generalize E:f.heap.objs.size=D at *
 generalize eC:HD.objs.size=C at *
 have exO:∀b∈g,∃o,f.heap.get? b=some o:=λb a=>let ⟨o,e,_⟩:=T.obj _ _ st2 b a;⟨o,e⟩
 have I3:∀tk,Inv (cW X N scope C f k g) [] (g8 link σ) k {f with heap:=IX,toks:=tk}:=λtk =>
  EV S l f2 (by rw[E];exact Mi) ns old exO
 have fpD:∀b∈g,b≠D:=λb a z=>by
  obtain⟨o,e⟩:=exO b a;have:=bf e;rw[z,<-E]at this;exact gU _ this
 have Eo:∀{Z:Hp} {pl:List (Addr×Obj)},(∀b∈g,Z b=none)->(∀p∈pl,p.1=D)->∀b∈g,yH (cW X N scope C f k g) pl Z b:=λ{Z pl} hn hp b a=>by
  have K0:=(I3 0).ok.exf b a;exact⟨hn b a,K0.1,(I3 0).ok.exfs b a,.inl a,K0.2,λp EI z=>fpD b a (z▸hp p (by simpa[cW]using EI))⟩
 have aa2:∀x c,(cW X N scope C f k g).env.cells.lookup x=some c->c≠D:=λx c e z=>by
  obtain⟨v,o,ho,_⟩:=l.cell x c (cw e);have:=bf ho;rw[z,<-E]at this;exact gU _ this
 have fsD:D∉(cW X N scope C f k g).fs:=λz=>by
  obtain⟨_,o,ho,_⟩:=l.stack.mem z;have:=bf ho;rw[<-E]at this;exact gU _ this
 have loop:∀s3:Shared,s3={f with heap:=IX,toks:=f.toks+([]:List (Str×Value)).length} ->
   codeAny (model X.prog X.w) X.A (.compLoop (.ListComp elt [⟨tg,iter,ifs,0⟩] scope pos) 0 (.ref it) (.ref D) (cW X N scope C f k g).env) (compPost (model X.prog X.w) X.A X.xe use Q' (.ref D) C) s3:=by
  rintro s3 rfl
  refine Jn (λn s'=>∃i B bL Z j t,Inv (cW X N scope C f k g) [] bL Z s'/\tn i s'.heap/\(∀b∈g,Z b=none)/\Z D=none/\s'.heap.get? D=some {cls:=.type "list",data:=.seq j.toArray t}/\Vals B j/\W i n B bL Z) ?_ m0
   ⟨0,[],_,k,[],0,I3 _,T.keep _ _ _ st2 λb a o e=>old b o e,λb a=>(f2 b a).1,l.hok.fresh (gW E),afg,.nil,w0⟩
  rintro n s4 ⟨i,B,QT,H4,j,t,I4,kz,fr4,hD4,LM,hv,w4⟩
  have aa3:Inv (cW X N scope C f k g) [(D,{cls:=.type "list",data:=.seq j.toArray t})] QT H4 s4:=I4.nE λp hp=>by
   have e:p=(D,{cls:=.type "list",data:=.seq j.toArray t}):=by simpa using hp
   subst e;exact⟨LM,hD4,L,fsD,λv=>by simp⟩
  have Mj:∀p∈[(D,({cls:=.type "list",data:=.seq j.toArray t}:Obj))],p.1=D:=λp hp=>by
   have e:p=(D,{cls:=.type "list",data:=.seq j.toArray t}):=by simpa using hp
   rw[e]
  rcases mT i n B QT H4 w4 with⟨stop,hz,q⟩ | ⟨go,hz,step⟩
  ·refine thn (T.done (cW X N scope C f k g) rfl rfl rfl hc i _ s4 QT H4 _ aa3 (Eo fr4 Mj) kz stop) λr s5 ⟨hr,M⟩=>?_
   subst hr;obtain⟨m,hn,_⟩:=M.loc;have pD:=M.pin (D,{cls:=.type "list",data:=.seq j.toArray t}) (dN _ (aV.mpr rfl))
   have R:∀b o,f.heap.get? b=some o->b≠D/\b≠C:=λb o e=>by
    have:=bf e;rw[E]at this;exact⟨bK this,bK (cb this Mi)⟩
   have TX:X.env.locals≠D/\X.env.locals≠C:=by
    have:=l.lt;rw[E]at this;exact⟨bK this,bK (cb this Mi)⟩
   have I6:=l.Tp M.os M.base M.hok M.bare λb a=>⟨(f2 b a).2.2.2.1,(f2 b a).2.1,(f2 b a).2.2.2.2.1,(f2 b a).2.2.2.2.2⟩
   have I7:=Inv.adopt (o:=.lst B) I6 pD.2.1 (bA l.sz (gW E)) (dF TX.1) (λx c e=>let ⟨v,o,ho,_⟩:=l.cell x c e;(R c o ho).1)
    (λp hp=>(R p.1 p.2 (l.pin p hp).1).1) ⟨hz,j,t,hv,pD.1⟩
   exact aff s5 D C _ m I7 (q D pD.2.1) hn ⟨by rw[aJ (dF L)];exact M.free,bA (bA l.sz (gW E)) Mi,dF TX.2,λx c e=>let ⟨v,o,ho,_⟩:=l.cell x c e;(R c o ho).2,λp hp=>(R p.1 p.2 (l.pin p hp).1).2⟩
  ·refine thn (T.item (cW X N scope C f k g) rfl rfl rfl hc i _ s4 QT H4 _ aa3 (Eo fr4 Mj) kz go) λr s5 ⟨u,hr,h5⟩=>?_
   subst hr;refine thn h5 λ_ s5' z9=>?_
   obtain⟨x,H5,M,r5,y5,VD,fr5⟩:=z9;have I5':=M.pinned (Eo fr5 Mj) (T.obj _ _ VD);have fin:∀{o:Option V} {σ6:St} {H6:Hp} {s6:Shared},Inv (cW X N scope C f k g) ([(D,{cls:=.type "list",data:=.seq j.toArray t})]++tw g s5'.heap) σ6 H6 s6 ->
     tn (i+1) s6.heap/\(∀b∈g,H6 b=none)/\H6 D=none/\s6.heap.get? D=some {cls:=.type "list",data:=.seq j.toArray t}:=λ{o σ6 H6 s6} I6=>by
    have pD:=I6.pin (D,_) (dN _ (ik _ (aV.mpr rfl)));refine⟨T.keep _ _ _ VD λb a o e=>(I6.pin (b,o) (dN _ (dN _ (jM a e)))).1,λb a=>?_,pD.2.1,pD.1⟩
    obtain⟨o,e,d⟩:=T.obj _ _ VD b a;exact(I6.pin (b,o) (dN _ (dN _ (jM a e)))).2.1
   refine jH (hb C f k g _ s5' QT H5 x u _ I5' r5 (step x H5 y5)) (λ_ s6 h6=>jH h6 (λok s7 h7=>?_) λ_ _ z=>False.elim z) λ_ _ z=>False.elim z
   cases ok with
   | false =>
    rw[if_neg dv]at h7 ⊢;obtain⟨Y,H8,I8,m',hm',w8⟩:=h7;obtain⟨a1,a2,a3,a4⟩:=fin (o:=none) I8;exact⟨m',hm',i+1,_,Y,H8,j,t,I8.nE (λp hp=>by cases hp),a1,a2,a3,a4,by simpa using hv,w8⟩
   | true =>
    rw[if_pos rfl]at h7 ⊢;refine jH h7 (λy s8 z9=>?_) λ_ _ z=>False.elim z
    obtain⟨v8,Y,H8,I8,r8,m',hm',w8⟩:=z9;obtain⟨a1,a2,a3,a4⟩:=fin (o:=some v8) I8;have hl:=hv.length;refine mQ F.slot_list_append ⟨_,a4,rfl⟩ F.entry_list_append (F.args_list_append_2 _ _) (PySem.list_append D j.toArray t y (by rw[fA];lia)) ⟨a4,?_⟩
    have I9:Inv (cW X N scope C f k g) [] Y H8 s8:=I8.nE (λp hp=>by cases hp)
    have qq:=PySem.IsL.update a4 λz=>z.push y
    have hp:j.toArray.push y=(j++[y]).toArray:=by simp
    rw[hp]at qq;refine⟨m',hm',i+1,_,Y,H8,j++[y],_,I9.turned (λb o hne e=>(xW _ _ (dF hne)).trans e) a3 L (.inr (gW E)) aa2 (λp hp=>by simp[cW]at hp),T.keep _ _ _ a1 λb a o e=>(xW _ _ (dF (fpD b a))).trans e,a2,a3,qq,hv.append (.cons r8 .nil),w8⟩
 exact codeAny_compStart_list (loop _ rfl) (T.self _ 0 _ _ _ (T.keep _ _ _ st2 λb a o e=>old b o e) (loop _ rfl))
def G5(hc:X.calm=true)(S:jq X N link scope)(d:PI X c iter f)
  (g:∀(C:Addr) (s:Shared) (H:Hp) (i:List Addr),PB (cW X N scope C s H i) c ifs elt j) (k:∀x,foldedSetIterable iter X.env x=pure x:=by intro _;rfl) :
  PE X (.ListComp elt [⟨c,iter,ifs,0⟩] scope pos) (wR link f j):=by
 intro u s v H Q I h;rw[eval_ListComp];refine wU hc S d g k I h λw D C l m p q r L=>⟨m,r,λy t=>?_⟩
 exact⟨.ref D,l,p.turned (λb o a e=>(t.2 b a).trans e) L.free L.loc (.inr L.above) L.cell L.pin,rfl,q⟩
def G6(hc:X.calm=true)(hN:X.N.Nodup)(l:X.N[i]?=some x)(j:X.env.scope.names.lookup x=some .local)(S:jq X N link scope)(p:PI X c iter t)
  (u:∀(C:Addr) (s:Shared) (H:Hp) (y:List Addr),PB (cW X N scope C s H y) c ifs elt B) (hw:swapsWith (.ListComp elt [⟨c,iter,ifs,0⟩] scope pos) (some (.Name x E)) J.line X.env=pure true) (M:∀x,foldedSetIterable iter X.env x=pure x:=by intro _;rfl) :
  PS X (.Assign [.Name x E] (.ListComp elt [⟨c,iter,ifs,0⟩] scope pos) J) (Pz (wR link t B) (gName i)):=by
 intro ae s σ H D I h;rw[exec_Assign_Name_used _ _ _ _ hw];refine ag (wpAny_standAt (ag ?_));refine ag (thn (wU hc S p u M I h λs5 a C Q m R q T L=>?_) λ_ s' q=>aj (aj q))
 refine wpAny_assign_Name (store_ok2 (v:=.ref a) R hN l (.inl j) rfl (λs6 Y k=>?_) (.inr j))
 refine⟨m,?_,λh' Z=>?_⟩
 ·obtain⟨o,es,ep,ho,r⟩:=T;obtain⟨b,d,f⟩:=k;have ne:C≠b:=λz=>by
   rcases f with w | w
   ·exact L.loc (z.trans w)
   ·exact L.cell x b w z.symm
  exact⟨o,es,ep,(d.2 C ne).trans ho,r⟩
 ·exact⟨_,Q,Y.turned (λb o g e=>(Z.2 b g).trans e) L.free L.loc (.inr L.above) L.cell L.pin,q⟩
noncomputable def bX(link:List (Option Nat))(a:List (Option PV)):List (Option PV):=link.map λo=>o.bind λj=>(a[j]?).join
def KG(L:List Nat)(g:Tg):Prop:=∀p a b,g p a=some b->b.ρ.length=a.ρ.length/\∀j:Nat,j∉L->b.ρ[j]?=a.ρ[j]?
def KGs(L:List Nat)(g:Zb):Prop:=∀p a b,g p a=some b->b.ρ.length=a.ρ.length/\∀j:Nat,j∉L->b.ρ[j]?=a.ρ[j]?
def Ru(i:Nat):KG [i] (aW i):=λp b c h=>by
 obtain⟨_,rfl⟩:=aR h;exact⟨sO,λj a=>kF (λz=>a (by simp[z]))⟩
def Rv:KGs [] q8:=λp a b h=>by
 cases p with
 | nil=>cases h;exact⟨rfl,λ_ _=>rfl⟩
 | cons _ _=>cases h
def Ml(h1:KG L g)(c:KGs M r):KGs (L++M) (dX g r):=λp d e h=>by
 cases p with
 | nil=>cases h
 | cons p f =>
  obtain⟨a,e1,i⟩:=aZ h;obtain⟨k,l⟩:=h1 p d a e1;obtain⟨m,o⟩:=c f a e i;exact⟨m.trans k,λj b=>(o j λz=>b (dN _ z)).trans (l j λz=>b (ik _ z))⟩
def WN(h:KGs L r):KG L (jP n r):=λp a b e=>by
 unfold jP at e;split at e
 ·obtain⟨_,e⟩:=b9 e;exact h _ a b e
 ·cases e
section
variable {K:W.Frag} {F:Fz} {ρ:List (Option PV)} {σ:St}
def Lc.g8(L:Lc K F ρ σ)(link:List (Option Nat)):Lc K F (bX link ρ) (g8 link σ) where
 av:=λi p e=>by
  unfold bX at e;rw[bP]at e;cases z:link[i]? with
  | none=>rw[z]at e;cases e
  | some o =>
   rw[z]at e;cases o with
   | none=>cases e
   | some j =>
    have e:(ρ[j]?).join=some p:=cD e;cases w:ρ[j]? with
    | none=>rw[w]at e;cases e
    | some q =>
     rw[w]at e;cases e;obtain⟨v,a,b⟩:=L.av j p w;refine⟨v,?_,b⟩;unfold L2.U.g8;rw[bP,z];show some ((σ[j]?).join)=_;rw[a];rfl
 len:=by unfold bX L2.U.g8;rw[ao,ao]
def Lc.back{L:List Nat}(R:Lc K F EW σ)(b:a.length=σ.length)(c:a=bX link ρ)(hk:∀j:Nat,j∉L->EW[j]?=a[j]?)(d:∀i∈L,link[i]?=some none):Lc K F a σ where
 av:=λi p e=>by
  refine R.av i p ?_;rw[hk i λf=>?_]
  ·exact e
  ·rw[c]at e;unfold bX at e;rw[bP,d i f]at e;cases e
 len:=b
end
noncomputable def okR{b:Type}:Rs b×cL->Option (b×List aw)
 | (.ok a,st)=>some (a,st.h)
 | _=>none
abbrev Bd:=List (Option PV)->PV->List aw->Option (Option PV×List aw)
def lU(g:Tg)(fe:Gx PV):Bd:=λa p h=>(g p ⟨a,h⟩).bind λb=>(fe b).bind λr=>(okR r).map λx=>(some x.1,x.2)
def oo(g:Tg)(c:Gx Bool)(fe:Gx PV):Bd:=λd p h=>(g p ⟨d,h⟩).bind λe=>(c e).bind λr=>match r with
 | (.ok b,a)=>if b=true then(fe a).bind λr=>(okR r).map λx=>(some x.1,x.2)else some (none,a.h)
 | _=>none
noncomputable def fL(bd:PV->List aw->Option (Option PV×List aw)):List PV->List aw->Option (List PV×List aw)
 | [],h=>some ([],h)
 | p::a,h=>(bd p h).bind λr=>(fL bd a r.2).map λs=>(r.1.toList++s.1,s.2)
section
variable {X:Cx} {aa:Hp} {ab:Fz} {N:List Str} {link:List (Option Nat)} {scope:Scope} {tg iter elt c:Expr} {pos:Pos} {fi:Gx (List PV)} {g:Tg} {fe:Gx PV} {ft:Gx Bool} {L:List Nat} {cl:Bool}
def BM(e:okR r=some (a,h)):∃st,r=(.ok a,st)/\st.h=h:=by
 obtain⟨r,st⟩:=r;cases r with
 | ok x=>cases e;exact⟨st,rfl,rfl⟩
 | ex m C=>cases e
def _root_.L2.U.PB.imp(h:PB Y tg ifs elt d)(i:∀v a H Q,b v a H Q->d v a H Q):PB Y tg ifs elt b:=λe s a H v u Q I r w=>h e s a H v u Q I r (i _ _ _ _ w)
def tb1(X:Cx)(aa:Hp)(ab:Fz)(g:Tg)(fe:Gx PV):TB:=λv b H Q=>tG X.K aa ab g v b H λa d=>∀Y:Cx,Y.K=X.K->tE Y aa ab fe a d λy e=>Q (some y) a e
def tb2(X:Cx)(aa:Hp)(ab:Fz)(g:Tg)(ft:Gx Bool)(fe:Gx PV):TB:=λv d H Q=>tG X.K aa ab g v d H λa e=>∀Y:Cx,Y.K=X.K->tT Y aa ab ft a e λt b=>if t=true then tE Y aa ab fe a b λy f=>Q (some y) a f else Q none a b
section
variable (ht:∀(C:Addr) (s:Shared) (H:Hp) (fp:List Addr),PG (cW X N scope C s H fp) tg (tG X.K aa ab g)) (he:∀(C:Addr) (s:Shared) (H:Hp) (fp:List Addr),PE (cW X N scope C s H fp) elt (tE (cW X N scope C s H fp) aa ab fe))
include ht he
def pb1(C:Addr)(s:Shared)(H:Hp)(fp:List Addr):PB (cW X N scope C s H fp) tg [] elt (tb1 X aa ab g fe) :=
 (Mh (ht C s H fp) (he C s H fp)).imp (by rintro v σ H Q ⟨F,st,p,a,R,b,e,q⟩;exact⟨F,st,p,a,R,b,e,λd f h i j=>q d f h i j _ rfl⟩)
def pb2(hw:∀(C:Addr) (s:Shared) (H:Hp) (fp:List Addr),PT (cW X N scope C s H fp) c (tT (cW X N scope C s H fp) aa ab ft))(C:Addr)(s:Shared)(H:Hp)(fp:List Addr):PB (cW X N scope C s H fp) tg [c] elt (tb2 X aa ab g ft fe) :=
 (Rq (ht C s H fp) (hw C s H fp) (he C s H fp)).imp (by rintro v σ H Q ⟨F,st,p,a,R,b,e,q⟩;exact⟨F,st,p,a,R,b,e,λd f h i j=>q d f h i j _ rfl⟩)
end
def rL(h:tS X aa ab (di fe (aW i)) D σ H):tE X aa ab fe σ H λv a=>D.nx (σ.set i (some v)) a:=by
 obtain⟨F,d,R,h⟩:=h;refine⟨F,d,R,h.bnd λp v F1 m a b o f j=>?_⟩
 obtain⟨q,e,z⟩:=j.stp;obtain⟨k,rfl⟩:=aR e;exact z F1 _ a ⟨b.c,b.l.set k f⟩ (Gr.refl _)
end
def SI(h:Heap)(it l:Addr)(k:Nat)(xs:Array Value):Prop:=(h.IsListIter it l k/\h.IsList l xs)\/(h.IsTupleIter it l k/\h.IsTuple l xs)
def SI.at{h h':Heap}{it l:Addr}{k:Nat}{xs:Array Value}(x:SI h it l k xs)(h1:∀o,h.get? it=some o->h'.get? it=some o)(d:∀o,h.get? l=some o->h'.get? l=some o):SI h' it l k xs:=by
 rcases x with⟨⟨o,e,r⟩,⟨a,b,c⟩⟩ | ⟨⟨o,e,r⟩,⟨a,b,c⟩⟩
 ·exact .inl ⟨⟨o,h1 o e,r⟩,⟨a,d a b,c⟩⟩
 ·exact .inr ⟨⟨o,h1 o e,r⟩,⟨a,d a b,c⟩⟩
def SI.TY{h:Heap}{it l:Addr}{k:Nat}{xs:Array Value}(x:SI h it l k xs):∃o,h.get? it=some o/\∃vs,o.data=.fields vs:=by
 rcases x with⟨⟨o,e,_,d⟩,_⟩ | ⟨⟨o,e,_,d⟩,_⟩
 ·grind
 ·grind
def SI.sq{h:Heap}{it l:Addr}{k:Nat}{xs:Array Value}(x:SI h it l k xs):∃o n,h.get? l=some o/\o.data=.seq xs n:=by
 rcases x with⟨_,⟨o,e,_,n,d⟩⟩ | ⟨_,⟨o,e,_,n,d⟩⟩
 ·grind
 ·grind
def SI.ne{h:Heap}{it l:Addr}{k:Nat}{xs:Array Value}(x:SI h it l k xs):l≠it:=λz=>by
 obtain⟨o,e,c,d⟩:=x.TY;obtain⟨f,n,a,b⟩:=x.sq;subst z;rw[e]at a;cases a;rw[d]at b;cases b
section
variable {prog:Program} {w:World} {A:Around} {E:Value->Shared->Prop} {s:Shared}
def EX{it t:Addr}{i:Nat}{b:Array Value}{x:Value}{Q:Value->Shared->Prop}(a:s.heap.IsTupleIter it t i)(ht:s.heap.IsTuple t b)(c:b[i]?=some x)
  (d:∀h',h'.IsTupleIter it t (i+1)->Heap.SameBut it s.heap h'->Q x {s with heap:=h'}):wpAny (model prog w) A (Builtin.SmallTypes.nextOf (.ref it)) Q E s:=by
 obtain⟨o,ho,hc,hd⟩:=id a;obtain⟨g,e,_,h,f⟩:=ht;refine ag (jC a.typeIs xT (fX xT a.typeIs KJ (by
  show wpAny _ _ (field (.ref it) 0 >>= _) _ _ s;refine ag (kR ho hd rfl ?_);show wpAny _ _ (if(Value.ref t==Value.none)=true then _ else _) _ _ s
  rw[if_neg (show ¬((Value.ref t==Value.none)=true)from dv)]
  show wpAny _ _ (field (.ref it) 1 >>= _) _ _ s;refine ag (kR ho hd (x:=.int i 0) rfl ?_);show wpAny _ _ (seqItems? (.ref t) >>= _) _ _ s;refine ag (wpAny_seqItems e f ?_);simp only[eZ,c];refine ag (mN ho hd (by simp) (aj ⟨x,rfl,aj (d _ ⟨_,kC _ ho (xX (kH hd _)),(yi ..).trans hc,by rw[kH hd];simp[rawInt]⟩ (jD ..))⟩))) (KI _)))
def EY{it t:Addr}{i:Nat}{c:Array Value}{Q:Value->Shared->Prop}(d:A.handled=none)(b:s.heap.IsTupleIter it t i)(ht:s.heap.IsTuple t c)(f:c[i]?=none)
  (g:∀h' e,Heap.ExtBut it s.heap h'->(∃o,h'.get? e=some o/\o.cls=.type "StopIteration")->E (.ref e) {s with heap:=h'}):wpAny (model prog w) A (Builtin.SmallTypes.nextOf (.ref it)) Q E s:=by
 obtain⟨o,ho,hc,hd⟩:=id b;obtain⟨k,h,_,l,j⟩:=ht;refine ag (jC b.typeIs xT (fX xT b.typeIs KJ (by
  show wpAny _ _ (field (.ref it) 0 >>= _) _ _ s;refine ag (kR ho hd rfl ?_);refine ag (kR ho hd (x:=.int i 0) rfl ?_);show wpAny _ _ (seqItems? (.ref t) >>= _) _ _ s;refine ag (wpAny_seqItems h j ?_);simp only[eZ,f];refine ag (gz (ag (mN ho hd (by simp) ?_)))
  show wpAny _ _ (newExc (.type "StopIteration") [] >>= _) _ _ _;refine ag ?_;simp only[newExc,newTuple];refine ag (gy ?_ (by size_fits))
  refine ag (m:=firstArgMember _ _) (yy (a:=Value.none) (by first | rfl | (simp only[firstArgMember];rfl)) ?_)
  refine gy ?_ (by size_fits)
  simp only[raiseNew];refine ag (wpAny_handled ?_)
  first | rw[show A.in1.handled=none from d] | rw[d]
  exact ag (aj (wpAny_throw (g _ _ (((jD ..).extBut.push _).push _) ⟨_,cx _ rfl,rfl⟩)))) (KI _)))
def SI.next{it l:Addr}{k:Nat}{xs:Array Value}{x:Value}{Q:Value->Shared->Prop}(e:SI s.heap it l k xs)(f:xs[k]?=some x)(g:∀h',SI h' it l (k+1) xs->Heap.SameBut it s.heap h'->Q x {s with heap:=h'}) :
  wpAny (model prog w) A (Builtin.SmallTypes.nextOf (.ref it)) Q E s:=by
 have ne:=e.ne;rcases e with⟨d,c⟩ | ⟨d,c⟩
 ·exact wpAny_nextOf_list_item d c f λh' a b=>g h' (.inl ⟨a,c.extBut b.extBut ne⟩) b
 ·exact EX d c f λh' a b=>g h' (.inr ⟨a,c.extBut b.extBut ne⟩) b
def SI.stop{it l:Addr}{k:Nat}{xs:Array Value}{Q:Value->Shared->Prop}(c:A.handled=none)(g:SI s.heap it l k xs)(d:xs[k]?=none)
  (f:∀h' e,Heap.ExtBut it s.heap h'->(∃o,h'.get? e=some o/\o.cls=.type "StopIteration")->E (.ref e) {s with heap:=h'}):wpAny (model prog w) A (Builtin.SmallTypes.nextOf (.ref it)) Q E s:=by
 rcases g with⟨a,b⟩ | ⟨a,b⟩
 ·exact wpAny_nextOf_list_end c a b d f
 ·exact EY c a b d f
end
section
variable {prog:Program} {w:World} {A:Around} {E:Value->Shared->Prop} {s:Shared} {z TI TO i1 i2 l1 l2:Nat} {k:Nat} {xs ys:Array Value}
def wV(h:Heap)(l:Addr)(xs:Array Value)(c:String):Prop:=(c="list_iterator"/\h.IsList l xs)\/(c="tuple_iterator"/\h.IsTuple l xs)
def rM{l:Addr}{xs:Array Value}{c:String}{Q:Value->Shared->Prop}(h:wV s.heap l xs c)(a:Q (.ref s.heap.objs.size) {s with heap:=s.heap.push {cls:=.type c,data:=.fields #[.ref l,.int 0 0]}}):wpAny (model prog w) A (pyIter (.ref l)) Q E s:=by
 rcases h with⟨rfl,h⟩ | ⟨rfl,h⟩
 ·exact D2 h a
 ·exact DW h a
end
def Kt(K:W.Frag)(H:Hp)(c:Bool)(l:Addr)(vs:List V):Prop:=if c=true then yG K H l vs else iG K H l vs
def Rx(h:Heap)(c:Bool)(it l:Addr)(k:Nat):Prop:=if c=true then h.IsListIter it l k else h.IsTupleIter it l k
def Mm(c:Bool):String:=if c=true then "list_iterator" else "tuple_iterator"
section
variable {X:Cx} {ae:List (Addr×Obj)} {σ:St} {H:Hp} {s:Shared}
def Kt.get(I:Inv X ae σ H s){c:Bool}{l:Addr}{vs:List V}(h:Kt X.K H c l vs):∃a:List Value,Vals vs a/\wV s.heap l a.toArray (Mm c):=by
 unfold Mm;cases c with
 | true =>
  obtain⟨a,r,pl,_⟩:=I.list (h);exact⟨a,r,.inl ⟨rfl,pl.isList⟩⟩
 | false =>
  obtain⟨a,r,pl,_⟩:=I.tuple (h);exact⟨a,r,.inr ⟨rfl,pl⟩⟩
def Kt.inj(I:Inv X ae σ H s){c:Bool}{l:Addr}{vs ws:List V}(h:Kt X.K H c l vs)(h':Kt X.K H c l ws):vs=ws:=by
 cases c with
 | true=>exact I.nH h h'
 | false=>exact I.lD h h'
def T1{h:Heap}{c:Bool}{it l:Addr}{k:Nat}{xs:Array Value}(h1:Rx h c it l k)(a:wV h l xs (Mm c)):SI h it l k xs:=by
 cases c with
 | true =>
  rcases a with⟨_,q⟩ | ⟨q,_⟩
  ·exact .inl ⟨h1,q⟩
  ·exact absurd q (by decide)
 | false =>
  rcases a with⟨q,_⟩ | ⟨_,q⟩
  ·exact absurd q (by decide)
  ·exact .inr ⟨h1,q⟩
def Ry{h:Heap}{c:Bool}{it l:Addr}{k k':Nat}{xs:Array Value}{b:Heap}(h1:SI h it l k xs)(d:wV b l xs (Mm c))(j:∀o,b.get? l=some o->h.get? l=some o):Rx h c it l k:=by
 cases c with
 | true =>
  rcases d with⟨_,⟨o,e,hc,_⟩⟩ | ⟨q,_⟩
  ·rcases h1 with⟨a,_⟩ | ⟨_,⟨f,g,i,_⟩⟩
   ·exact a
   ·grind
  ·exact absurd q (by decide)
 | false =>
  rcases d with⟨q,_⟩ | ⟨_,⟨o,e,hc,_⟩⟩
  ·exact absurd q (by decide)
  ·rcases h1 with⟨_,⟨f,g,i,_⟩⟩ | ⟨a,_⟩
   ·grind
   ·exact a
def Inv.turns{t':Nat}{h':Heap}{ch:List Addr}(I:Inv X ae σ H s)(a:∀b∈ch,yH X ae H b)(d:∀b o,b∉ch->s.heap.get? b=some o->h'.get? b=some o):Inv X ae σ H {s with heap:=h',toks:=t'}:=by
 have g:∀b u,H b=some u->b∉ch:=λb u e z=>by rw[(a b z).1]at e;cases e
 refine I.step (λb f=>⟨(a b f).2.2.2.1,(a b f).2.1,(a b f).2.2.2.2.1,(a b f).2.2.2.2.2⟩) (λb o _ _ hc e _=>d b o hc e) (λb o _ _ hc e _=>⟨o.slots,d b o hc e⟩) (λ_ _ _ _ n=>n)
  (λb o hc e=>⟨o,d b o hc e⟩) (λ_ _ e=>e) (λ_ _ _ e=>e) (λ_ _ e=>e) (λm h=>?_) (λb u e=>?_) I.bare
 ·obtain⟨o,j,k,ho,r⟩:=h;exact⟨o,j,k,d _ o (λz=>(a _ z).2.1 rfl) ho,r⟩
 ·refine(I.hok b u e).yD (λc v hc q=>d c v ?_ q) (λ_ q=>q) (λ_ _ q=>q) λ_ _ _ q=>q
  rcases hc with z | z
  ·rw[z];exact g b u e
  ·exact g c _ z
end
def Rx.at{h h':Heap}{c:Bool}{it l:Addr}{k:Nat}(x:Rx h c it l k)(h1:∀o,h.get? it=some o->h'.get? it=some o):Rx h' c it l k:=by
 cases c with
 | true =>
  obtain⟨o,e,r⟩:=(x);exact(⟨o,h1 o e,r⟩)
 | false =>
  obtain⟨o,e,r⟩:=(x);exact(⟨o,h1 o e,r⟩)
def Rx.obj{h:Heap}{c:Bool}{it l:Addr}{k:Nat}(x:Rx h c it l k):∃o,h.get? it=some o/\∀v,o.data≠.cell v:=by
 unfold Rx at x;split at x
 ·obtain⟨o,e,_,d⟩:=x;exact⟨o,e,λv=>by grind⟩
 ·obtain⟨o,e,_,d⟩:=x;exact⟨o,e,λv=>by grind⟩
def Mn{prog:Program}{w:World}{A:Around}{it l:Addr}{xs:Array Value}(g:A.handled=none):Draws prog w A it [it,l] xs.size (λi x=>xs[i]?=some x) (λi h=>SI h it l i xs) where
 live:=λi h c=>by
  obtain⟨o,e,_⟩:=c.TY;exact⟨o,e⟩
 frame:=λi h d c k=>c.at (λo e=>k it (by simp) o e) (λo e=>k l (by simp) o e)
 item:=λi s Q E f c j=>SI.next c (su f) λd a b=>j _ d s.toks (su f) a b
 done:=λs Q E c m=>SI.stop g c (Array.getElem?_eq_none (au _)) m
set_option maxHeartbeats 2000000 in
theorem Mo(l:Addr)(xs:Array Value)(c:String)(b:Obj) :
  Meets (Builtin.«enumerate.__new__» ⟨[.type "enumerate",.ref l],[]⟩) (λ_ R s=>wV s.heap l xs c/\s.heap.get? l=some b /\
   ∀h1 k:Heap,h1=s.heap.push {cls:=.type c,data:=.fields #[.ref l,.int 0 0]}->k=h1.push {cls:=.type "enumerate",data:=.fields #[.none,.bool false,.ref s.heap.objs.size,rawInt 0,.none,.none]}->R (.ok (.ret (.ref h1.objs.size))) {s with heap:=k}) :=
 .of_wp λprog w A R s h=>by
  obtain⟨hp,g,d,p,q⟩:=s;obtain⟨m,r,h⟩:=h;have f:wV (Shared.heap ⟨hp,g,d,p,q⟩) l xs c:=m;have x:=sub_enumerate;rcases m with⟨rfl,⟨o,e,hc,n,hd⟩⟩ | ⟨rfl,⟨o,e,hc,n,hd⟩⟩
  ·obtain⟨i,t,a,u⟩:=o;replace hc:i=.type "list":=hc;replace hd:a=.seq xs n:=hd
   wp_walk using kB e
   refine wpAny_stack_any λv=>aj ?_
   split
   ·rename_i j _ _ _ _ _;cases(j==Value.type "enumerate")<;>(wp_walk using kB e,rM f)<;>exact⟨_,rfl,h _ _ rfl rfl⟩
   ·wp_walk using kB e,rM f
    exact⟨_,rfl,h _ _ rfl rfl⟩
  ·obtain⟨i,t,a,u⟩:=o;replace hc:i=.type "tuple":=hc;replace hd:a=.seq xs n:=hd
   wp_walk using kB e
   refine wpAny_stack_any λv=>aj ?_
   split
   ·rename_i j _ _ _ _ _;cases(j==Value.type "enumerate")<;>(wp_walk using kB e,rM f)<;>exact⟨_,rfl,h _ _ rfl rfl⟩
   ·wp_walk using kB e,rM f
    exact⟨_,rfl,h _ _ rfl rfl⟩
def Rz{prog:Program}{w:World}{A:Around}{E:Value->Shared->Prop}{s:Shared}{e it l:Addr}{k:Nat}{i:Int}{xs:Array Value}{a:Value}{Q:Option Value->Shared->Prop}(c:A.handled=none)(b:IsEnum s.heap e it i a)(st:SI s.heap it l k xs)(d:xs[k]?=none)(f:∀h',Heap.ExtBut it s.heap h'->Q none {s with heap:=h'}):wpAny (model prog w) A (pyNext (.ref e)) Q E s:=by
 have ty:s.TypeIs (.ref e) "enumerate":=⟨_,b,rfl⟩;unfold pyNext;refine ag (sQ (jC ty F.slot_enumerate_next (fX F.slot_enumerate_next ty F.entry_enumerate_next (by
  show wpAny _ _ (field (.ref e) 2 >>= _) _ _ _;refine ag (kR b rfl rfl (ag (SI.stop c st d λh' y g ⟨o,ho,hc⟩=>?_)))
  exact ag (ym ⟨o,ho,hc⟩ isSubtype_stop (aj (f _ g)))) (F.args_enumerate_next_1 _))))
def Ien(K:W.Frag)(c:Bool)(l:Addr):It where
 go:=λi H=>∃a v,Kt K H c l a/\a[i]?=some v
 yld:=λi H x b=>∃T v,H T=none/\x=.ref T/\b=cC H T (.aq [.int i,v])/\∀a,Kt K H c l a->a[i]?=some v
 stop:=λi H=>∃a,Kt K H c l a/\a.length<=i
def eTn(e it l:Nat)(c:Bool)(i:Nat)(h:Heap):Prop:=(∃a,IsEnum h e it i a)/\Rx h c it l i
def RA{P:Program}{w:World}{K:W.Frag}{g:List Expr}{x1:Nat}{VQ:Pos}{e it l:Nat}{c:Bool}(j:it<e)(Z:l<it) :
  Turn P w K (.Tuple g x1 VQ) (Ien K c l) [e,it] e (eTn e it l c) where
 mem:=aM
 obj:=by
  rintro i h ⟨⟨_,a1⟩,a2⟩ b a
  simp only[aU,eE,e9]at a;rcases a with rfl | rfl
  ·exact⟨_,a1,λv=>by simp⟩
  ·exact a2.obj
 keep:=(by rintro i h h' ⟨⟨old,a1⟩,a2⟩ k;exact⟨⟨old,k e (by simp) _ a1⟩,a2.at λo x=>k it (by simp) o x⟩)
 item:=by
  rintro X C hw J hc i ae s σ H E I hf ⟨⟨old,a1⟩,a2⟩ ⟨vs,v,t,ev⟩
  subst C hw J;obtain⟨u,L,y⟩:=t.get I;obtain⟨x,ex,rx⟩:=L.get ev;have ne:e≠it:=sS j;have m:e≠l:=sS (pP Z j);have TZ:X.A.in1.handled=none:=I.ok.hd hc;refine wpAny_pyNext_enum_itemD (Mn (xs:=u.toArray) (l:=l) TZ) a1 (T1 a2 y) (by
   have:=(bW.mp ex).1;simpa using this) ne (by simp[ne,m]) λM h' B EN hO st hT hs' kp=>⟨_,rfl,?_⟩
  have xe:M=x:=by
   have e1:u.toArray[i]?=some x:=by simpa using ex
   rw[e1]at EN;cases EN;rfl
  subst xe;refine wpAny_letOwnedTupleGo_enum hO λf N p=>?_
  have r:∀b∈[e,it],b<s.heap.objs.size:=λb a=>by
   simp only[aU,eE,e9]at a;have h1:e<s.heap.objs.size:=bf a1;rcases a with rfl | rfl<;>lia
  have eT:e≠s.heap.objs.size:=bK (r e (by simp))
  have R:∀b o,b∉[e,it]->s.heap.get? b=some o->f.get? b=some o:=λb o a z=>by
   simp only[aU,eE,e9,not_or]at a;exact p.extBut _ _ a.1 (kp b o a.1 a.2 z)
  have I1:Inv X ae σ H {s with heap:=f,toks:=B+1}:=Inv.turns I hf R
  have T:H s.heap.objs.size=none:=I.fresh;have d:=I.IC (H':=H) (au _) T;have pr:f.get? s.heap.objs.size=some {cls:=.type "tuple",data:=.seq #[.int i B,M]}:=p.extBut _ _ (dF eT) hT
  have I2:=Inv.adopt (D:=s.heap.objs.size) (o:=.aq [.int i,v]) I1 T (by
    rcases d.2.2.2.1 with q | q
    ·exact I.sz
    ·exact q) d.2.1 d.2.2.2.2.1 d.2.2.2.2.2 ⟨(by show 2<=sizeLine;decide),[.int i B,M],.cons ⟨B,rfl⟩ (.cons rx .nil),⟨_,pr,rfl,0,rfl⟩⟩
  refine⟨.ref s.heap.objs.size,_,I2,rfl,⟨s.heap.objs.size,v,T,rfl,rfl,λyT h1=>?_⟩,⟨⟨_,N⟩,?_⟩,λb a=>?_⟩
  ·rw[<-Kt.inj I t h1];exact ev
  ·have Y:l≠it:=bK Z;have q:=Ry (k':=i) st y λo z=>kp l o (dF m) Y z
   exact q.at λo z=>p.extBut _ _ (dF ne) z
  ·rw[aJ (bK (r b a))];exact(hf b a).1
 done:=by
  rintro X C hw J hc i ae s σ H E I hf ⟨⟨old,a1⟩,a2⟩ ⟨vs,t,he⟩
  subst C hw J;obtain⟨u,L,y⟩:=t.get I;have hz:u.toArray[i]?=none:=Array.getElem?_eq_none (by rw[fA,<-L.length];exact he)
  refine Rz (I.ok.hd hc) a1 (T1 a2 y) hz λh' p=>⟨rfl,?_⟩
  exact Inv.turns (t':=s.toks) I hf λb o a z=>by
   simp only[aU,eE,e9,not_or]at a;exact p b o a.2 z
 self:=(by rintro A i s Q E ⟨⟨_,a1⟩,_⟩ q;exact wpAny_pyIter_enum a1 q)
def T2:Expr->Bool
 | .Tuple _ _ _=>true
 | _=>false
def zm:PV->Option (List PV)
 | .nd .aq a=>some a
 | .nd .lst a=>some a
 | _=>none
def BO(p q:PV):PV:=.aq [p,q]
def Mp{K:W.Frag}(h:zm p=some ps)(b:bZ K F p x):∃c l vs,x=.ref l/\Kt K F.F c l vs/\aG K F ps vs/\∀F',cV F.F F'->Kt K F' c l vs:=by
 unfold zm at h;split at h
 ·cases h;obtain⟨l,vs,rfl,a,d⟩:=cR.mp b;exact⟨false,l,vs,rfl,a,d,λF' s=>bD s a⟩
 ·cases h;obtain⟨l,vs,rfl,a,d⟩:=gH.mp b;exact⟨true,l,vs,rfl,a.sq,d,λF' s=>(By s a).sq⟩
 ·cases h
def Jp{K:W.Frag}(d:yG K F.F a vs)(c:aG K F ps vs):Walk K F ps (Itl K a):=by
 intro j k f l m H R s i;have b:=(s.s.trans R.sub).seq d;refine⟨λp e=>?_,λe=>?_⟩
 ·obtain⟨v,e1,g⟩:=c.get e;refine⟨⟨vs,v,b,e1⟩,λx o ⟨h,y⟩=>?_⟩
  subst h;have:=y vs b;rw[e1]at this;cases this;exact⟨f,R,Gr.refl _,g.mono s⟩
 ·refine⟨vs,b,?_⟩;rw[<-c.length];exact mD.mp e
def Mq{K:W.Frag}(d:iG K F.F a vs)(c:aG K F ps vs):Walk K F ps (Itt K a):=by
 intro j k f l m H R s i;have b:=bD (s.s.trans R.sub) d;refine⟨λp e=>?_,λe=>?_⟩
 ·obtain⟨v,e1,g⟩:=c.get e;refine⟨⟨vs,v,b,e1⟩,λx o ⟨h,y⟩=>?_⟩
  subst h;have:=y vs b;rw[e1]at this;cases this;exact⟨f,R,Gr.refl _,g.mono s⟩
 ·refine⟨vs,b,?_⟩;rw[<-c.length];exact mD.mp e
noncomputable def Mr(lo:Int)(n:Nat):List PV:=(List.range n).map fun(i:Nat)=>.int (lo+i)
def ui{K:W.Frag}(lo:Int)(n:Nat):Walk K F (Mr lo n) (ZQ lo n):=by
 intro d f b g h H R s i;unfold Mr;refine⟨λp e=>?_,λe=>?_⟩
 ·rw[bP]at e;by_cases a:i<n
  ·rw[sy a]at e;cases e;exact⟨a,λx j ⟨c,y⟩=>by subst c y;exact⟨b,R,Gr.refl _,aH.mpr rfl⟩⟩
  ·rw[kD (by simpa using a)]at e;cases e
 ·rw[bP]at e;by_cases a:i<n
  ·rw[sy a]at e;cases e
  ·exact pF a
def fM:Nat->List PV->List PV
 | _,[]=>[]
 | k,p::r=>BO (.int k) p::fM (k+1) r
theorem p0:∀(ps:List PV) (k i:Nat),(fM k ps)[i]?=ps[i]?.map λp=>BO (.int ((k+i:Nat):Int)) p
 | [],k,i=>by simp[fM]
 | p::r,k,0=>by simp[fM]
 | p::r,k,i+1=>by
  simp only[fM,xV];rw[p0 r (k+1) i,show k+1+i=k+(i+1) by lia]
def RC{K:W.Frag}(j:∀F',cV F.F F'->Kt K F' c l vs)(f:aG K F ps vs):Walk K F (fM 0 ps) (Ien K c l):=by
 intro u w F' y B H R s i;have b:=j H (s.s.trans R.sub);refine⟨λp e=>?_,λe=>?_⟩
 ·rw[p0]at e;cases a:ps[i]? with
  | none=>rw[a]at e;cases e
  | some k =>
   rw[a]at e;cases e;obtain⟨v,e1,d⟩:=f.get a;refine⟨⟨vs,v,b,e1⟩,λx C m=>?_⟩
   obtain⟨T,D,o,q,r,t⟩:=m;have g:=t vs b;rw[e1]at g;cases g;subst q r;obtain⟨R2,h⟩:=R.laid (.aq [.int i,v]) o;refine⟨_,R2,h,cR.mpr ⟨T,[.int i,v],rfl,iG.of aF,.cons ?_ (.cons (d.mono (s.trans h)) .nil)⟩⟩;rw[d8];exact aH.mpr rfl
 ·refine⟨vs,b,?_⟩;rw[p0]at e;cases a:ps[i]? with
  | none =>
   have:=mD.mp a;rw[f.length]at this;exact this
  | some k=>rw[a]at e;cases e
section
variable {X:Cx} {aa:Hp} {ab:Fz} {a b e tg:Expr} {fa fb:Gx PV} {ts:Gx (List PV)} {pos p:Pos}
noncomputable def RD(i j:Int):Bool:=decide (-(2^62)<=i/\i<2^62 /\ -(2^62)<=j/\j<2^62)
def zq:List PV->Option (List PV)
 | [.int j]=>if RD 0 j=true then some (Mr 0 j.toNat)else none
 | _=>none
def WO:List PV->Option (List PV)
 | [.int i,.int j]=>if RD i j=true then some (Mr i (j-i).toNat)else none
 | _=>none
def vy(g:List PV->Option (List PV))(ts:Gx (List PV)):Gx (List PV):=bnd ts λc=>lH (g c)
def Ms(c:Gl X "range")(d:X.mg "range"=none)(f:PA X [a] (tA X aa ab ts))(g:starEach [a] X.env=[(false,eval a X.env)]:=by rfl):PI X tg (.Call (.Name "range" p) [a] [] pos) (tI X aa ab (vy zq ts)) :=
 (IE c d f g).imp λσ H t ⟨F,st,R,h⟩=>⟨F,st,R,h.bnd λu w F1 x i j y k l=>by
  obtain⟨o,e,z⟩:=l.lH;unfold zq at e;split at e
  ·obtain⟨m,rfl⟩:=aR e;obtain⟨v,rfl,b⟩:=dU k;obtain⟨_,_,q,r⟩:=dw m;rw[aH.mp b];exact⟨_,rfl,q,r,z _ i F1 j (Gr.refl _) (ui 0 _)⟩
  ·cases e⟩
def Mt(f:Gl X "range")(g:X.mg "range"=none)(i:PA X [a,b] (tA X aa ab ts))(j:starEach [a,b] X.env=[(false,eval a X.env),(false,eval b X.env)])(k:starEach [b] X.env=[(false,eval b X.env)]):PI X tg (.Call (.Name "range" p) [a,b] [] pos) (tI X aa ab (vy WO ts)) :=
 (IF f g i j k).imp λσ H t ⟨F,st,R,h⟩=>⟨F,st,R,h.bnd λu x F1 y l m B q r=>by
  obtain⟨o,e,z⟩:=r.lH;unfold WO at e;split at e
  ·obtain⟨d,rfl⟩:=aR e;obtain⟨v,w,rfl,b,c⟩:=oe q;have d:=dw d;rw[aH.mp b,aH.mp c];exact⟨_,_,rfl,d,z _ l F1 m (Gr.refl _) (ui _ _)⟩
  ·cases e⟩
def wW(fa:Gx PV):Gx (List PV):=bnd fa λp=>lH ((zm p).map λc=>fM 0 c)
def afn(ht:T2 tg=true)(hg:Gl X "enumerate")(hm:X.mg "enumerate"=none)(ha:PE X a (tE X aa ab fa))(M:starEach [a] X.env=[(false,eval a X.env)]) :
  PI X tg (.Call (.Name "enumerate" p) [a] [] pos) (tI X aa ab (wW fa)):=by
 rintro N s σ H R I ⟨F,st,Rp,h⟩
 have hA:=jN ha tF M pos N s σ H (λQ H'=>∃u T x w g,Q=[x]/\Rep X.K aa ab u T σ H'/\bZ X.K u w x/\zm w=some g/\∀b i y,Rep X.K aa ab y T σ i->Gr u y->Walk X.K y (fM 0 g) b->R b i) I
  ⟨F,st,Rp,h.bnd λp v F1 Y f l B C d=>by
   obtain⟨o,e,z⟩:=d.lH;obtain⟨g,e1,rfl⟩:=bt e;exact⟨F1,Y,v,p,g,rfl,l,C,e1,z⟩⟩
 refine Call_ (ld_blt I hg hm boot_enumerate (kA (thn hA λus c z9=>?_) M rfl))
 obtain⟨Q,f,m,r1,F1,Y,x,w,g,ev,l,C,f3,q⟩:=z9;subst ev;obtain⟨u1,rfl,D⟩:=j9 r1;obtain⟨Z,l1,vs1,rfl,q1,E,k1⟩:=Mp f3 C;cases D;obtain⟨aI,v1,j⟩:=(k1 f l.sub).get m;obtain⟨k,T3⟩:∃o,c.heap.get? l1=some o:=by
  rcases j with⟨_,⟨o,e,_⟩⟩ | ⟨_,⟨o,e,_⟩⟩
  ·grind
  ·grind
 have J:=bf T3;refine callType_new PySem.F.called_enumerate (by decide) (PySem.F.typeCall_enumerate_1 _) (PySem.F.newCall_enumerate_1 _) (λobj=>PySem.F.args_object_init_2 obj _) PySem.F.entry_enumerate_new (Mo l1 aI.toArray (Mm Z) k) ⟨j,T3,λd r e1 e2=>?_⟩
 have z1:d.objs.size=c.heap.objs.size+1:=by simp_all
 have p1:∀b o,c.heap.get? b=some o->d.get? b=some o:=λb o e=>by rw[e1];exact bj _ e
 have p2:∀b o,d.get? b=some o->r.get? b=some o:=λb o e=>by rw[e2];exact bj _ e
 have L:IsEnum r d.objs.size c.heap.objs.size 0 .none:=by rw[e2];exact cx _ rfl
 have B:=p2 _ _ (by rw[e1];exact cx _ rfl)
 have I2:Inv X N σ f {c with heap:=r,toks:=c.toks}:=m.kept λb o e=>p2 _ _ (p1 _ _ e)
 have pV:∀b,c.heap.objs.size<=b->f b=none:=λb t=>m.hok.fresh t
 refine⟨⟨_,L,rfl⟩,?_⟩;show wpAny _ _ (pyIter (.ref d.objs.size)) _ _ {c with heap:=r,toks:=c.toks}
 refine wpAny_pyIter_enum L ?_;cases tg with
 | Tuple elts x1 VQ =>
  refine⟨d.objs.size,[d.objs.size,c.heap.objs.size],_,_,f,rfl,I2,RA (by lia) J,⟨⟨_,L⟩,(by
   cases Z with
   | true=>exact(⟨_,B,rfl,rfl⟩)
   | false=>exact(⟨_,B,rfl,rfl⟩))⟩,λb t=>?_,q _ f F1 l (Gr.refl _) (RC k1 E)⟩
  simp only[aU,eE,e9]at t;have O0:c.heap.objs.size<=b:=by rcases t with rfl | rfl<;>lia
  exact m.IC O0 (pV b O0)
 | _=>cases ht
end
inductive AM where
 | sq (ps:List PV) | cl (n:Nat)
def aa5(K:W.Frag)(F:Fz):AM->It->Prop
 | .sq b,J=>Walk K F b J
 | .cl n,J=>∃a,F.μ[n]?=some a/\J=Itl K a
abbrev Ku(X:Cx)(a:Hp)(b:Fz)(f:Gx AM):TI:=tX X a b (aa5 X.K) f
def Jq(f:Gx (List PV)):Gx AM:=bnd f λa=>bg (.sq a)
def Mu(n:Nat)(h:List aw)(i:Nat):Option (Option PV):=match cS h (.ref n)with
 | some (.lst,a)=>some a[i]?
 | _=>none
def Mv(h:List aw)(p:PV):Option AM:=match zm p with
 | some a=>some (.sq a)
 | none=>match p with
  | .ref n=>match cS h (.ref n)with
   | some (.lst,_)=>some (.cl n)
   | _=>none
  | _=>none
def jr(fe:Gx PV):Gx AM:=bnd fe λp=>hp λh=>Mv h p
def BP(g:Tg)(a:Gx dM)(n:Nat):Nat->Nat->Gx dM
 | 0,_=>λ_=>none
 | f+1,i=>λb=>match Mu n b.h i with
  | some (some p)=>bnd (stp (g p)) (λ_=>bnd a (wM (BP g a n f (i+1)))) b
  | some none=>some (.ok .nx,b)
  | none=>none
def aa6(g:Tg)(a:Gx dM):AM->Gx dM
 | .sq b=>c9 g a b
 | .cl n=>BP g a n gu 0
def BQ(fi:Gx AM)(g:Tg)(a:Gx dM):Gx dM:=bnd fi (aa6 g a)
section
variable {X:Cx} {aa:Hp} {ab:Fz} {e tg iter:Expr} {fa:Gx PV} {fb:Gx dM} {body:List Stmt} {pos:Pos}
def WQ(h:PI X tg e (tI X aa ab f)):PI X tg e (Ku X aa ab (Jq f)):=(by rintro a s σ H R I ⟨F,st,b,c⟩;exact h a s σ H R I ⟨F,st,b,c.bnd λk J F1 l d g m i j=>j.bg J d F1 g (Gr.refl _) i⟩)
def Mw{K:W.Frag}{st:cL}(R:Rep K aa ab F st σ H)(b:F.μ[n]?=some a)(e:Mu n st.h i=some o):∃ps vs,o=ps[i]?/\yG K H a vs/\aG K F ps vs:=by
 unfold Mu at e;split at e
 ·rename_i ps z;cases e;obtain⟨f,vs,e1,c,d⟩:=R.at z (dQ.mpr ⟨a,b,rfl⟩);cases e1;exact⟨ps,vs,rfl,lB.sq c,d⟩
 ·cases e
def Mx(he:PE X e (tE X aa ab fa)):PI X tg e (Ku X aa ab (jr fa)):=by
 rintro o s σ H R I ⟨F,st,t,h⟩
 obtain⟨r,e1,g⟩:=At.bnd h
 match r,g with
 | (.ex m C,w),g =>
  exact Lo he o s σ H R I ⟨F,st,t,_,e1,g⟩
 | (.ok p,w),g =>
  obtain⟨D,b,q⟩:=At.hp g;unfold Mv at b;split at b
  ·rename_i x i;cases b;unfold zm at i;split at i
   ·cases i;refine Lo he o s σ H R I ⟨F,st,t,_,e1,λv j F1 c k f=>?_⟩
    obtain⟨a,l,rfl,d,u⟩:=cR.mp f;exact⟨a,rfl,⟨l,bD c.sub d⟩,q _ j F1 c k (Mq d u)⟩
   ·cases i;refine GB he o s σ H R I ⟨F,st,t,_,e1,λv j F1 c k f=>?_⟩
    obtain⟨a,l,rfl,d,u⟩:=gH.mp f;exact⟨a,rfl,⟨l,(By c.sub d).sq⟩,q _ j F1 c k (Jp d.sq u)⟩
   ·cases i
  ·split at b
   ·rename_i n _;split at b
    ·rename_i x z;cases b;refine GB he o s σ H R I ⟨F,st,t,_,e1,λv j F1 c k f=>?_⟩
     obtain⟨a,l,rfl,d,u⟩:=c.at z f;obtain⟨E,y,B⟩:=dQ.mp f;cases B;exact⟨a,rfl,⟨l,lB.sq d⟩,q _ j F1 c k ⟨a,y,rfl⟩⟩
    ·cases b
   ·cases b
def WR{fi:Gx AM}(hp:PassesOwn (model X.prog X.w) X.A X.env X.xe)(hc:X.calm=true)(hi:PI X tg iter (Ku X aa ab fi))(hg:PG X tg (tG X.K aa ab g))(hb:PSs X body (tS X aa ab fb))
  (hs:∀x,foldedSetIterable iter X.env x=pure x:=by intro _;rfl):PS X (.For tg iter body [] pos) (tS X aa ab (BQ fi g fb)):=(Lp hp hc hi hg hb hs).imp <| by
 rintro D σ H ⟨F,st,R,h⟩
 refine⟨F,st,R,h.bnd λsr J F1 bz H1 R1 g1 wk h1=>?_⟩
 cases sr with
 | sq d =>
  refine⟨λi m j k=>m=d.length-i/\i<=d.length/\∃c b,Rep X.K aa ab c b j k/\Gr F1 c/\Sa X aa ab c D b (c9 g fb (d.drop i)),⟨d.length,by simp,dn _,F1,bz,R1,Gr.refl _,h1⟩,?_⟩
  rintro i m j k ⟨rfl,hi,c,b,t,u,q⟩
  obtain⟨wg,L⟩:=wk aa ab c b j k t u i;by_cases M:i<d.length
  ·obtain⟨go,wy⟩:=wg d[i] (b6 M);rw[ph M]at q;refine .inr ⟨go,λB l=>∃F2 f,Rep X.K aa ab F2 f B l/\Gr F1 F2/\Sa X aa ab F2 D f (c9 g fb (d.drop (i+1))),λB l N=>⟨d.length-(i+1),by lia,rfl,M,N⟩,λx l y=>?_⟩
   obtain⟨F2,R2,s2,b2⟩:=wy x l y;obtain⟨r,e1,I⟩:=At.bnd q;obtain⟨C,Q,T⟩:=bt e1;subst T;refine⟨F2,b,d[i],C,R2,b2,Q,λqx H3 Y Z E=>⟨Y,C,Z,?_⟩⟩
   exact Sa.mT _ (λF4 kz QT H4 R4 g4 z=>⟨F4,kz,R4,(u.trans (s2.trans E)).trans g4,z⟩) (Sa.mono (I) (s2.trans E))
  ·have e:i=d.length:=by lia
   subst e;rw[sM]at q;exact .inl ⟨L (kD (au _)),At.bg q c j k t (Gr.refl _)⟩
 | cl n =>
  obtain⟨a,ha,rfl⟩:=wk;refine⟨λi m j k=>∃c b,Rep X.K aa ab c b j k/\Gr F1 c/\Sa X aa ab c D b (BP g fb n m i),⟨gu,F1,bz,R1,Gr.refl _,h1⟩,?_⟩
  rintro i m j k ⟨c,b,t,u,q⟩
  cases m with
  | zero=>obtain⟨r,e,_⟩:=q;cases e
  | succ m =>
   obtain⟨r,e1,I⟩:=q;have e1:(match Mu n b.h i with
    | some (some p)=>bnd (stp (g p)) (λ_=>bnd fb (wM (BP g fb n m (i+1)))) b
    | some none=>some (.ok .nx,b)
    | none=>none)=some r:=e1
   cases z:Mu n b.h i with
   | none=>rw[z]at e1;cases e1
   | some o =>
    obtain⟨d,vs,ho,hq,GQ⟩:=Mw t (u.m n a ha) z;cases o with
    | none =>
     rw[z]at e1;cases e1;refine .inl ⟨⟨vs,hq,?_⟩,I c j k t (Gr.refl _)⟩;rw[<-GQ.length];exact mD.mp ho.symm
    | some p =>
     rw[z]at e1;obtain⟨v,hv,bv⟩:=GQ.get ho.symm;refine .inr ⟨⟨vs,v,hq,hv⟩,λB l=>∃F2 f,Rep X.K aa ab F2 f B l/\Gr F1 F2/\Sa X aa ab F2 D f (BP g fb n m (i+1)),λB l N=>⟨m,sN m,N⟩,λx l ⟨hH,y⟩=>?_⟩
     subst hH;have:=y vs hq;rw[hv]at this;cases this;obtain⟨r',q1,q2⟩:=At.bnd (⟨r,e1,I⟩);obtain⟨C,Q,T⟩:=bt q1;subst T;refine⟨c,b,p,C,t,bv,Q,λqx H3 Y Z E=>⟨Y,C,Z,?_⟩⟩
     exact Sa.mT _ (λF4 kz QT H4 R4 g4 z=>⟨F4,kz,R4,(u.trans E).trans g4,z⟩) (Sa.mono (q2) E)
end
def G7(bd:PV->List aw->Option (Option PV×List aw))(n:Nat):Nat->Nat->List aw->Option (List PV×List aw)
 | 0,_,_=>none
 | f+1,i,h=>match Mu n h i with
  | some (some p)=>(bd p h).bind λr=>(G7 bd n f (i+1) r.2).map λs=>(r.1.toList++s.1,s.2)
  | some none=>some ([],h)
  | none=>none
def aa8(bd:PV->List aw->Option (Option PV×List aw))(h:List aw):AM->Option (List PV×List aw)
 | .sq a=>if a.length<=gu then fL bd a h else none
 | .cl n=>G7 bd n gu 0 h
def T5(c:Bool)(a:List (Option PV))(r:List PV×List aw):Option (Rs PV×cL):=if c=true then mY ⟨.lst,r.1⟩ ⟨a,r.2⟩else some (.ok (.lst r.1),⟨a,r.2⟩)
def dH(c:Bool)(link:List (Option Nat))(fi:Gx AM)(bd:Bd):Gx PV:=bnd fi λs a=>(aa8 (bd (bX link a.ρ)) a.h s).bind (T5 c a.ρ)
section
variable {X:Cx} {aa:Hp} {ab:Fz} {N:List Str} {link:List (Option Nat)} {scope:Scope} {tg iter elt c:Expr} {pos:Pos} {fi:Gx AM} {g:Tg} {fe:Gx PV} {ft:Gx Bool} {L:List Nat} {cl:Bool}
def BR{e:cL}{Q:VK}(l:lG X.K aa ab F' hf H')(m:Lc X.K F1 e.ρ σ)(f:Gr F1 F')(h:aG X.K F' done acc)(i:H' D=none)(d:T5 cl e.ρ (done,hf)=some r)(j:L3 X aa ab F1 (λa o=>∀b H' F',Rep X.K aa ab F' o σ H'->Gr F1 F'->bZ X.K F' a b->Q b H') r):Q (.ref D) (cC H' D (.lst acc)):=by
 have Ro:Rep X.K aa ab F' ⟨e.ρ,hf⟩ σ H':=⟨l,m.mono f⟩;cases cl with
 | true =>
  have d:=d;exact Tx.mY (Tx.mono ⟨r,d,j⟩ f λ_ _ z=>z) Ro i aF h
 | false =>
  have d:=d;cases d;obtain⟨R2,k⟩:=Ro.laid (.lst acc) i;exact j _ _ _ R2 (f.trans k) (gH.mpr ⟨D,acc,rfl,lB.of aF,h.mono k⟩)
def wX{Q:VK}
  (hb:∀(F2:Fz) (ρ:List (Option PV)) (p:PV) (h h':List aw) (o:Option PV) (x:V) (j:St) (u:Hp) (Q':Option V->St->Hp->Prop),bd (bX link ρ) p h=some (o,h')->Rep X.K aa ab F2 ⟨bX link ρ,h⟩ j u->bZ X.K F2 p x ->
   (∀C qx H3 w,Rep X.K aa ab w ⟨bX link ρ,h'⟩ qx H3->Gr F2 w->aG X.K w o.toList (Option.toList C)->Q' C qx H3)->tb x j u Q')
  (h:tE X aa ab (dH cl link fi bd) σ H Q):wR link (Ku X aa ab fi) tb σ H Q:=by
 obtain⟨F,st,R,h⟩:=h;refine⟨F,st,R,h.bnd λsr J F1 q H1 E g1 wk h1=>?_⟩
 obtain⟨r,e1,e2⟩:=h1;obtain⟨⟨rs,hf⟩,e3,e4⟩:=aZ e1;cases sr with
 | sq t =>
  obtain⟨eQ,e3⟩:=b9 e3;refine⟨λi m d j I=>m=t.length-i/\i<=t.length/\d.length<=i/\∃k h' done b,Rep X.K aa ab k ⟨bX link q.ρ,h'⟩ j I/\Gr F1 k/\fL (bd (bX link q.ρ)) (t.drop i) h'=some (b,hf)/\done++b=rs/\aG X.K k done d,
   ⟨t.length,rfl,dn _,au _,F1,q.h,[],rs,⟨E.c,E.l.g8 link⟩,Gr.refl _,e3,rfl,.nil⟩,?_⟩
  rintro i m d j I ⟨rfl,hi,T,k,h',done,b,M,B,f,hd,Y⟩
  obtain⟨wg,wst⟩:=wk aa ab k _ j I M B i;by_cases gg:i<t.length
  ·rw[ph gg]at f;obtain⟨⟨o,Z⟩,e5,e6⟩:=aZ f;obtain⟨⟨r2,h3⟩,e7,e8⟩:=bt e6;cases e8;obtain⟨go,wy⟩:=wg t[i] (b6 gg);refine .inr ⟨go,iV (bA T hi) (iV eQ (by decide)),λx u y=>?_⟩
   obtain⟨F2,R2,s2,b2⟩:=wy x u y;refine hb F2 q.ρ t[i] h' Z o x j u _ e5 R2 b2 λC qx H3 w R3 s3 b3=>⟨t.length-(i+1),by lia,rfl,gg,?_,w,Z,done++o.toList,r2,R3,B.trans (s2.trans s3),e7,by rw[<-hd,b7],(Y.mono (s2.trans s3)).append b3⟩
   rw[aX];cases C<;>simp <;> lia
  ·have e:i=t.length:=by lia
   subst e;rw[sM]at f;cases f;rw[eG]at hd;subst hd;exact .inl ⟨wst (kD (au _)),bA T (gh eQ),λD hn=>BR M.c E.l B Y hn e4 e2⟩
 | cl n =>
  obtain⟨a,hna,rfl⟩:=wk;refine⟨λi m d j I=>i+m=gu/\d.length<=i/\∃k h' done b,Rep X.K aa ab k ⟨bX link q.ρ,h'⟩ j I/\Gr F1 k/\G7 (bd (bX link q.ρ)) n m i h'=some (b,hf)/\done++b=rs/\aG X.K k done d,
   ⟨gu,d8 _,au _,F1,q.h,[],rs,⟨E.c,E.l.g8 link⟩,Gr.refl _,e3,rfl,.nil⟩,?_⟩
  rintro i m d j I ⟨hm,T,k,h',done,b,M,B,f,hd,Y⟩
  cases m with
  | zero=>cases f
  | succ m =>
   have f:(match Mu n h' i with
    | some (some p)=>(bd (bX link q.ρ) p h').bind λr=>(G7 (bd (bX link q.ρ)) n m (i+1) r.2).map λs=>(r.1.toList++s.1,s.2)
    | some none=>some ([],h')
    | none=>none)=some (b,hf):=f
   have QF:i<=gu:=by lia
   cases z:Mu n h' i with
   | none=>rw[z]at f;cases f
   | some o =>
    obtain⟨t,vs,ho,hq,hbq⟩:=Mw M (B.m n a hna) z;rw[z]at f;cases o with
    | none =>
     cases f;rw[eG]at hd;subst hd;refine .inl ⟨⟨vs,hq,?_⟩,bA T (gh QF),λD hn=>BR M.c E.l B Y hn e4 e2⟩
     rw[<-hbq.length];exact mD.mp ho.symm
    | some p =>
     obtain⟨⟨o,Z⟩,e5,e6⟩:=aZ f;obtain⟨⟨r2,h3⟩,e7,e8⟩:=bt e6;cases e8;obtain⟨v,hv,bv⟩:=hbq.get ho.symm;refine .inr ⟨⟨vs,v,hq,hv⟩,iV (bA T QF) (by decide),λx u ⟨hH,y⟩=>?_⟩
     subst hH;have:=y vs hq;rw[hv]at this;cases this;refine hb k q.ρ p h' Z o v j u _ e5 M bv λC qx H3 w R3 s3 b3=>⟨m,sN m,by lia,?_,w,Z,done++o.toList,r2,R3,B.trans s3,e7,by rw[<-hd,b7],(Y.mono s3).append b3⟩
     rw[aX];cases C<;>simp <;> lia
def My(q:KG L g)(t:∀i∈L,link[i]?=some none)(h:tE X aa ab (dH cl link fi (lU g fe)) σ H Q):wR link (Ku X aa ab fi) (tb1 X aa ab g fe) σ H Q :=
 wX (λF2 T p h Z o x bL H2 Q' e R2 b2 k=>by
  obtain⟨b,e1,e⟩:=aZ e;obtain⟨r,u,e⟩:=aZ e;obtain⟨⟨a,hh⟩,w,y⟩:=bt e;cases y;obtain⟨vp,rfl,rfl⟩:=BM w;obtain⟨B,C⟩:=q _ _ _ e1;refine⟨F2,_,p,b,R2,b2,e1,λD H3 E d I Y J=>⟨E,b,by grind,_,u,λv M R f j m=>?_⟩⟩
  rw[J]at f m;exact k (some v) D M R ⟨f.c,(d.l.mono j).back (B.symm.trans d.l.len) rfl C t⟩ (I.trans j) (.cons m .nil)) h
def Mz(M:KG L g)(q:∀i∈L,link[i]?=some none)(h:tE X aa ab (dH cl link fi (oo g ft fe)) σ H Q):wR link (Ku X aa ab fi) (tb2 X aa ab g ft fe) σ H Q :=
 wX (λF2 ρ p h h' o x bL H2 Q' e R2 b2 k=>by
  obtain⟨t,e1,e⟩:=aZ e;obtain⟨r,R,e⟩:=aZ e;obtain⟨u,w⟩:=M _ _ _ e1;refine⟨F2,_,p,t,R2,b2,e1,λy H3 T d B Y C=>⟨T,t,by grind,r,R,?_⟩⟩
  match r,e with
  | (.ok b,j),e =>
   intro b' Z D m f eb;cases eb;cases b with
   | true =>
    have e:=e;obtain⟨r,e5,e⟩:=aZ e;obtain⟨⟨a,hh⟩,e6,e7⟩:=bt e;cases e7;obtain⟨vp,rfl,rfl⟩:=BM e6;rw[if_pos rfl];refine⟨D,j,m,_,e5,λv H5 F5 E I J=>?_⟩
    rw[C]at E J;exact k (some v) y H5 F5 ⟨E.c,(d.l.mono (f.trans I)).back (u.symm.trans d.l.len) rfl w q⟩ (B.trans (f.trans I)) (.cons J .nil)
   | false =>
    have e:=e;cases e;rw[C]at m;exact k none y Z D ⟨m.c,(d.l.mono f).back (u.symm.trans d.l.len) rfl w q⟩ (B.trans f) .nil) h
end
end L2.U
namespace PySem
open PyProof.Rows
def Raw(h:Heap)(a:Addr)(b:Array DictEntry)(c:Nat):Prop:=∃o,h.get? a=some o/\o.ExactDict/\o.data=.dict b c
section
variable {prog:Program} {w:World} {A:Around} {E:Value->Shared->Prop} {s:Shared} {it d:Addr} {i ep:Nat} {es:Array DictEntry}
def MA{Q:Value->Shared->Prop}(hd:(d==sysModules)=false)(c:Raw s.heap d es ep)
  (q:Q (.ref s.heap.objs.size) {s with heap:=s.heap.push {cls:=.type "dict_keyiterator",data:=.fields #[.ref d,.int 0 0,.int es.size 0,.int ep 0]}}):wpAny (model prog w) A (pyIter (.ref d)) Q E s:=by
 obtain⟨o,ho,hc,b⟩:=c;have a:s.TypeIs (.ref d) "dict":=⟨o,ho,hc.1⟩;refine DX a F.slot_dict_iter (fX F.slot_dict_iter a F.entry_dict_iter ?_ (F.args_dict_iter_1 _));unfold Builtin.«dict.__iter__» Builtin.Dict.dictSlotNone Builtin.Dict.showsAll;refine ag (ag (DQ a (show wpAny _ _ (pure (Value.ref d)) _ _ s from aj ?_)))
 show wpAny _ _ ((if(d==sysModules)=true then _ else _) >>= _) _ _ s
 rw[if_neg (by rw[hd];exact dv)]
 refine ag (aj (ag (sJ ho b (ag (wpAny_dictEpoch ho b ?_)))));exact ag (gy (aj ⟨_,rfl,"dict_keyiterator",_,⟨_,cx _ rfl,rfl⟩,DF.lookup,q⟩))
def BS{Q:Option Value->Shared->Prop}(l:A.handled=none)(g:s.heap.IsKeyIter it d i es.size ep)(p:Raw s.heap d es ep)
  (h1:∀e,es[i]?=some e->∀h',h'.IsKeyIter it d (i+1) es.size ep->Heap.SameBut it s.heap h'->Q (some e.key) {s with heap:=h'})
  (q:es[i]?=none->∀h',Heap.ExtBut it s.heap h'->Q none {s with heap:=h'}):wpAny (model prog w) A (pyNext (.ref it)) Q E s:=by
 obtain⟨o,ho,hc,f⟩:=id g;obtain⟨u,h,_,j⟩:=p;have c:=g.typeIs;unfold pyNext;refine ag (sQ (jC (name:=Str.ofString "__next__") c DF (fX DF c F.entry_dict_keyiterator_next ?_ (F.args_dict_keyiterator_next_1 _))));refine ag (aj (ag (ag ?_)))
 first | refine ag (DE c (aj ?_)) | refine ag (DI c (aj ?_))
 refine ag (wpAny_fieldsOf ho f ?_);simp only[show Builtin.Dict_items.ownsTuple "dict_keyiterator"=false by decide,jF,fF]
 show wpAny _ _ (if(Value.ref d==Value.none)=true then _ else _) _ _ s
 rw[if_neg (show ¬((Value.ref d==Value.none)=true)from dv)]
 refine ag (aj (ag (sJ h j ?_)));rw[if_neg (by simp)]
 refine ag (aj (ag (wpAny_dictEpoch h j ?_)));rw[if_neg (by simp)]
 refine aj ?_;cases he:es[i]? with
 | some e =>
  simp only[show ¬((i:Int)<0)from by lia,fF,eZ,he]
  refine ag ?_
  first | refine ag (DE c (aj ?_)) | refine ag (DI c (aj ?_))
  refine ag (wpAny_isOneOf_keyiter c ?_);show wpAny _ _ (setField (.ref it) 1 (rawInt ((i:Int)+1)) >>= _) _ _ s;refine ag (mN ho f (by simp) ?_)
  have k:(s.heap.update it (Obj.mapFields (·.setIfInBounds 1 (rawInt ((i:Int)+1))))).IsKeyIter it d (i+1) es.size ep :=
   ⟨_,kC _ ho (xX (kH f _)),(yi ..).trans hc,by rw[kH f];simp[rawInt]⟩
  refine ag (dZ (ag (wpAny_isOneOf_keyiter (s:={s with heap:=s.heap.update it (Obj.mapFields (·.setIfInBounds 1 (rawInt ((i:Int)+1))))}) k.typeIs ?_)))
  exact show wpAny _ _ (pure e.key) _ _ _ from aj (aj ⟨_,rfl,aj (h1 e he _ k (jD ..))⟩)
 | none =>
  simp only[show ¬((i:Int)<0)from by lia,fF,eZ,he]
  refine ag ?_
  first | refine ag (DE c (aj ?_)) | refine ag (DI c (aj ?_))
  show wpAny _ _ (setField (.ref it) 0 .none >>= _) _ _ s;refine ag (mN ho f (by simp) ?_)
  show wpAny _ _ (newExc (.type "StopIteration") [] >>= _) _ _ _;refine ag ?_;simp only[newExc,newTuple];refine ag (gy ?_ (by size_fits))
  refine ag (m:=firstArgMember _ _) (yy (a:=Value.none) (by first | rfl | (simp only[firstArgMember];rfl)) (gy ?_ (by size_fits)))
  simp only[raiseNew];refine ag (wpAny_handled ?_);rw[show A.in1.handled=none from l]
  refine ag (aj (wpAny_throw ?_));refine ag (ym (T:="StopIteration") (b:=true) ⟨_,cx _ rfl,rfl⟩ isSubtype_stop ?_);exact aj (q he _ (((jD ..).extBut.push _).push _))
end
end PySem
namespace L2.U
open PySem PySem.Spec PyProof.Rows
abbrev EnT(P:Program)(w:World)(a:Array DictEntry)(xs:List (List bE×Addr×Value)):Prop:=a.toList=xs.map (entryOfKey (tupleKind (cB P w)))
noncomputable def Kv(a:Addr)(b:Array DictEntry)(c:Nat):HO:=.ext λh=>Raw h a b c
def Itd(a:Addr)(b:Array DictEntry)(c:Nat)(xs:List (List bE×Addr×Value)):It :=
 ⟨λi H=>H a=some (Kv a b c)/\i<xs.length,λi H x d=>d=H/\∃z,xs[i]?=some z/\x=.ref z.2.1,λi H=>H a=some (Kv a b c)/\xs.length<=i⟩
def MB{P:Program}{w:World}{K:W.Frag}{Y:Expr}(a it:Addr)(j:Array DictEntry)(L:Nat)(M:EnT P w j xs):Turn P w K Y (Itd a j L xs) [it] it (λi h=>h.IsKeyIter it a i j.size L) where
 mem:=by simp
 obj:=λi h f b g=>by
  rw[aV]at g;subst g;obtain⟨o,e,c,d⟩:=f;exact⟨o,e,λv z=>by rw[d]at z;cases z⟩
 keep:=λi h l f k=>f.at λo e=>k it (by simp) o e
 item:=by
  intro X q hw r hc i N s Q H E I m f t;subst q hw r;obtain⟨u,p⟩:=t;obtain⟨x,y,Z,B,C,D⟩:=m it (by simp)
  have R:j[i]?=some (entryOfKey (tupleKind (cB X.prog X.w)) xs[i]):=by rw[entry_at M,b6 p];rfl
  refine BS (I.ok.hd hc) f (I.hok a _ u).1 (λe he l J T=>?_) λz=>by rw[R]at z;cases z
  cases R.symm.trans he;have I1:Inv X N Q H {s with heap:=l}:=I.turned (λb o g e=>T.extBut b o g e) x y B C D
  obtain⟨o,ho,Gy,hd⟩:=id J;exact⟨_,rfl,GA ho Gy hd (by decide) ⟨.ref xs[i].2.1,H,I1,rfl,⟨rfl,_,b6 p,rfl⟩,J,λb g=>(m b g).1⟩⟩
 done:=by
  intro X q hw r hc i N s Q H E I m f t;subst q hw r;obtain⟨u,p⟩:=t;obtain⟨x,y,Z,B,C,D⟩:=m it (by simp)
  refine BS (I.ok.hd hc) f (I.hok a _ u).1 (λe he l J T=>?_) λ_ l eb=>⟨rfl,I.turned (λb o g e=>eb b o g e) x y B C D⟩
  rw[entry_at M,kD p]at he;cases he
 self:=λ_ _ _ _ _ f h=>wpAny_pyIter_keyiter f h
section
variable {X:Cx} {tg:Expr}
abbrev DxT(X:Cx)(a:Addr)(b:Array DictEntry)(xs:List (List bE×Addr×Value)):Prop:=EnT X.prog X.w b xs/\(xs.map (·.1)).Nodup/\xs.length<=sizeLine/\(a==sysModules)=false
def afp(X:Cx)(f:TE):TI:=λg H R=>f g H λx d=>∃a b,x=.ref a/\d a=some (.dT b)/\∀c e,DxT X a c b->R (Itd a c e b) (cC d a (Kv a c e))
def WS{l:Expr}{j:TE}(B:PE X l j):PI X tg l (afp X j):=by
 intro m s p H R I h;refine thn (B m s p H _ I h) λv c C=>?_
 obtain⟨x,D,r,E,a,T,rfl,t,q⟩:=C;cases E;obtain⟨J,hS,o,d,f,g,L,M,d4,d5⟩:=r.hok a _ t;have w:Raw c.heap a d f:=⟨o,g,L,M⟩;have i:Inv X m p (cC D a (Kv a d f)) c:=r.write (e:=a) (by rw[t];trivial) (.inl rfl) (λb u _ q=>q) ⟨o,g⟩ ⟨w,⟨o,g⟩,λY Z ⟨N,e1,Q⟩ k=>⟨N,k _ e1,Q⟩⟩
 refine MA hS w ?_;refine⟨c.heap.objs.size,[c.heap.objs.size],_,_,_,rfl,i.kept λb o e=>bj _ e,MB a _ d f d4,⟨_,cx _ rfl,rfl,rfl⟩,λb y=>?_,q d f ⟨d4,d5,J,hS⟩⟩
 rw[aV]at y;subst y;exact i.IC (au _) (i.hok.fresh (au _))
def Unl(X:Cx)(D:vn):vn:={D with nx:=λb H=>D.nx b H\/∃a c d e,DxT X a d c/\H a=some (Kv a d e)/\D.nx b (cC H a (.dT c))}
def WT{st:Stmt}{t:TS}(h:PS X st t):PS X st (λD c H=>t (Unl X D) c H):=by
 intro i s c H D I q;refine jH (h i s c H _ I q) (λf j z=>?_) λ_ _ z=>z
 cases f with
 | next =>
  obtain⟨d,k,g,z | ⟨a,v,l,m,⟨w,x,y,B⟩,p,z⟩⟩:=z
  ·exact⟨d,k,g,z⟩
  ·obtain⟨o,r,C,E⟩:Raw j.heap a l m:=(g.hok a _ p).1;have J:Inv X i d (cC k a (.dT v)) j:=g.write (e:=a) (by rw[p];trivial) (.inl rfl) (λb u _ q=>q) ⟨o,r⟩ ⟨y,B,o,l,m,r,C,E,w,x⟩
   exact⟨d,_,J,z⟩
 | brk=>exact z
 | cont=>exact z
 | ret u=>exact z
end
def NE(H H':Hp):Prop:=∀c o,H c=some o->(∀a,o≠.ext a)->H' c=some o
section
variable {K:W.Frag} {H H' G G':Hp}
def NE.rd(e:NE H H')(h:Rd H a u)(b:∀c,u≠.ext c):Rd H' a u:=by
 rcases h with h | ⟨o,h⟩
 ·exact .inl (e _ _ h b)
 ·exact .inr ⟨o,e _ _ h λ_ z=>nomatch z⟩
def NE.aq(e:NE H H')(h:iG K H a xs):iG K H' a xs:=h.imp (λh=>e.rd h λ_ z=>nomatch z) id
def lQ.ne(h:lQ K G H a x k vs)(g:NE G G')(e:NE H H'):lQ K G' H' a x k vs:=by
 cases k with
 | aq=>exact⟨h.1,e.aq h.2⟩
 | lst =>
  cases x with
  | true=>exact e _ _ h λ_ z=>nomatch z
  | false=>exact Or.imp (λh=>e.rd h λ_ z=>nomatch z) id h
 | qu C ns =>
  obtain⟨i,j,fs,b,c,d,l,m⟩:=h;exact⟨i,j,fs,b,c,d,e _ _ l (λ_ z=>nomatch z),m⟩
 | fJ t ks =>
  cases t with
  | false =>
   obtain⟨f,b,c⟩:=h;exact⟨f,e _ _ b (λ_ z=>nomatch z),c⟩
  | true =>
   obtain⟨o,b,c,d⟩:=h;exact⟨o,e _ _ b (λ_ z=>nomatch z),λz p=>g.aq (c z p),d⟩
mutual
theorem bZ.ne{F F':Fz}(g:NE F.F F'.F)(m:F'.μ=F.μ):∀{p:PV} {v:V},bZ K F p v->bZ K F' p v
 | .bM,_,h=>h
 | .bl _,_,h=>h
 | .int _,_,h=>h
 | .str _,_,h=>h
 | .ref _,_,h=>by obtain⟨a,b,c⟩:=h;exact⟨a,by rw[m];exact b,c⟩
 | .fn _,_,h=>h
 | .nd k f,_,h=>by obtain⟨a,d,b,c,e⟩:=h;exact⟨a,d,b,c.ne g g,aG.ne g m e⟩
theorem aG.ne{F F':Fz}(g:NE F.F F'.F)(m:F'.μ=F.μ):∀{ps:List PV} {vs:List V},aG K F ps vs->aG K F' ps vs
 | [],_,h=>h
 | _::_,_,h=>by obtain⟨v,r,a,b,c⟩:=h;exact⟨v,r,a,bZ.ne g m b,aG.ne g m c⟩
end
end
def BU:aw:=⟨.aq,[]⟩
def BV(H:Hp)(a:Addr):Hp:=λb=>if b=a then none else H b
def uj(h:b≠a):BV H a b=H b:=if_neg h
section
variable {K:W.Frag} {aa H:Hp} {ab F F':Fz} {st:cL} {σ:St} {a:Addr} {n:Nat} {c:aw}
def T6{d:List Addr}(hd:d.Nodup)(h1:d[n]?=some a)(e:d[m]?=some b)(f:m≠n):b≠a:=λz=>by
 subst z;exact f ((DZ (bW.mp e).1 hd).mp (e.trans h1.symm))
def Rep.lock(R:Rep K aa ab F st σ H)(p:F.μ[n]?=some a)(v:F.F a=none)(u:HO):Rep K aa ab ⟨cC F.F a u,F.μ⟩ ⟨st.ρ,st.h.set n BU⟩ σ (cC H a u)/\Gr F ⟨cC F.F a u,F.μ⟩:=by
 have g:Gr F ⟨cC F.F a u,F.μ⟩:=⟨fw v,λ_ _ h=>h⟩
 have q:=(R.c.new n a p).1;refine⟨⟨⟨λb o e=>?_,λb o e=>?_,R.c.base.trans g,λb o e=>?_,λm b e=>?_,by simp[R.c.hl],R.c.nd,λm d b hd f r=>?_⟩,R.l.mono g⟩,g⟩
 ·have e:cC F.F a u b=some o:=e;by_cases f:b=a
  ·subst f;rw[aF]at e ⊢;exact e
  ·rw[aJ f]at e ⊢;exact R.c.sub _ _ e
 ·rw[aJ (b8 e q)];exact R.c.keep _ _ e
 ·have e:cC F.F a u b=some o:=e;by_cases f:b=a
  ·subst f;exact .inr q
  ·rw[aJ f]at e;exact R.c.fresh _ _ e
 ·obtain⟨i,o,j⟩:=R.c.new m b e;by_cases f:b=a
  ·subst f;exact⟨i,u,aF⟩
  ·exact⟨i,o,by rw[aJ f];exact j⟩
 ·by_cases k:m=n
  ·subst k;rw[List.getElem?_set_self' ]at hd;cases z:st.h[m]? with
   | none=>rw[z]at hd;cases hd
   | some y=>rw[z]at hd;cases hd;cases r
  ·rw[kF (dF k)]at hd;have t:=T6 R.c.nd p f k;obtain⟨i,w,j,x⟩:=R.c.cell m d b hd f r;exact⟨(aJ t).trans i,w,j.to g.s (λo e=>by rw[aJ t];exact e) (λz=>z),x.mono g⟩
def Rep.unlock{F1:Fz}(R:Rep K aa ab F' ⟨J,h⟩ σ H)(w:F'.μ[n]?=some a)(D:F'.F a=some (.ext x))(E:Gr F1 F')(L:F1.F a=none)(M:Gr ab F1)(N:n<h.length)(u:HO)(hc:∀G,cV F1.F G->lQ K G (cC H a u) a true c.k vs)(Q:aG K F1 c.ps vs) :
  Rep K aa ab ⟨BV F'.F a,F'.μ⟩ ⟨J,h.set n c⟩ σ (cC H a u)/\Gr F1 ⟨BV F'.F a,F'.μ⟩:=by
 have g:Gr F1 ⟨BV F'.F a,F'.μ⟩:=⟨λb o e=>(uj (b8 e L)).trans (E.s _ _ e),E.m⟩
 have j:NE F'.F (BV F'.F a):=λb o e q=>by
  by_cases f:b=a
  ·subst f;rw[D]at e;cases e;exact absurd rfl (q x)
  ·rw[uj f];exact e
 have I:=(R.c.new n a w).1;have y:H a=some (.ext x):=R.c.sub _ _ D;have B:NE H (cC H a u):=λb o e q=>by
  by_cases f:b=a
  ·subst f;rw[y]at e;cases e;exact absurd rfl (q x)
  ·rw[aJ f];exact e
 refine⟨⟨⟨λb o e=>?_,λb o e=>?_,M.trans g,λb o e=>?_,λm b e=>?_,by rw[sO];exact R.c.hl,R.c.nd,λm d b hd f T=>?_⟩,⟨λi p e=>?_,R.l.len⟩⟩,g⟩
 ·by_cases f:b=a
  ·subst f;exact nomatch (show none=some o from(if_pos rfl:BV F'.F b b=none).symm.trans e)
  ·rw[aJ f];exact R.c.sub _ _ ((uj f).symm.trans e)
 ·rw[aJ (b8 e I)];exact R.c.keep _ _ e
 ·by_cases f:b=a
  ·subst f;exact .inr I
  ·exact R.c.fresh _ _ ((uj f).symm.trans e)
 ·obtain⟨r,o,t⟩:=R.c.new m b e;by_cases f:b=a
  ·subst f;exact⟨r,u,aF⟩
  ·exact⟨r,o,by rw[aJ f];exact t⟩
 ·by_cases C:m=n
  ·subst C;rw[px N]at hd;cases hd;cases w.symm.trans f;exact⟨if_pos rfl,vs,hc _ g.s,Q.mono g⟩
  ·rw[kF (dF C)]at hd;have X:=T6 R.c.nd w f C;obtain⟨r,ws,t,Y⟩:=R.c.cell m d b hd f T;exact⟨(uj X).trans r,ws,t.ne j B,aG.ne (F:=F') (F':=⟨BV F'.F a,F'.μ⟩) j rfl Y⟩
 ·obtain⟨v,r,t⟩:=R.l.av i p e;exact⟨v,r,bZ.ne (F:=F') (F':=⟨BV F'.F a,F'.μ⟩) j rfl t⟩
end
noncomputable def kyP:bE->PV
 | .inl i=>.int i
 | .inr x=>.str x
def oq(ks:List (List bE)):List PV:=ks.map λk=>.aq (k.map kyP)
noncomputable def unD(n:Nat)(c:aw):Rs dM×cL->Option (Rs dM×cL)
 | (.ok .nx,st)=>if n<st.h.length then some (.ok .nx,⟨st.ρ,st.h.set n c⟩)else none
 | (.ok (.rt p),st)=>some (.ok (.rt p),st)
 | _=>none
def aa9:Kd->Option (List (List bE))
 | .fJ true ks=>some ks
 | _=>none
def RE(fe:Gx PV)(g:Tg)(a:Gx dM):Gx dM:=bnd fe λp b=>(rf b.h p).bind λq=>(aa9 q.2.k).bind λks=>(c9 g a (oq ks) ⟨b.ρ,b.h.set q.1 BU⟩).bind (unD q.1 q.2)
theorem zu{K:W.Frag}{F:Fz}:∀k:List bE,aG K F (k.map kyP) (k.map kV)
 | []=>.nil
 | .inl i::k=>.cons (aH.mpr rfl) (zu k)
 | .inr x::k=>.cons (cZ.mpr rfl) (zu k)
def MC{K:W.Frag}(hF:F.F a=some (Kv a f g))(hk:fY K F.F xs):Walk K F (oq (xs.map (·.1))) (Itd a f g xs):=by
 intro l m h o q H R s i;have d:=R.c.sub _ _ (s.s _ _ hF);unfold oq;rw[cy,bP];refine⟨λp e=>?_,λe=>⟨d,?_⟩⟩
 ·obtain⟨y,b,rfl⟩:=mF.mp e;refine⟨⟨d,(bW.mp b).1⟩,λx r z=>?_⟩
  obtain⟨rfl,k,j,rfl⟩:=z;cases b.symm.trans j;exact⟨h,R,Gr.refl _,cR.mpr ⟨_,_,rfl,bD s.s (hk y (dc b)),zu _⟩⟩
 ·rw[DO]at e;exact mD.mp e
section
variable {X:Cx} {aa:Hp} {ab:Fz} {tg iter:Expr} {fe:Gx PV} {fb:Gx dM} {body:List Stmt} {pos:Pos} {D:vn}
def WU(hp:PassesOwn (model X.prog X.w) X.A X.env X.xe)(hc:X.calm=true)(he:PE X iter (tE X aa ab fe))(hg:PG X tg (tG X.K aa ab g))(hb:PSs X body (tS X aa ab fb))
  (hs:∀x,foldedSetIterable iter X.env x=pure x:=by intro _;rfl):PS X (.For tg iter body [] pos) (tS X aa ab (RE fe g fb)):=(WT (Lp hp hc (WS he) hg hb hs)).imp λD σ H h=>by
 obtain⟨F,st,R,h⟩:=h;refine⟨F,st,R,h.bnd λp v F1 J H1 R1 g1 b1 h1=>?_⟩
 obtain⟨r,e1,T⟩:=h1;obtain⟨⟨n,c⟩,d1,e0⟩:=aZ e1;clear e1;obtain⟨rfl,L,hl⟩:=jo d1;obtain⟨ks,M,e1⟩:=aZ e0;obtain⟨q,d3,e1⟩:=aZ e1;obtain⟨a,ha,rfl⟩:=dQ.mp b1;obtain⟨ck,cp⟩:=c;have M:aa9 ck=some ks:=M;cases ck with
 | fJ t zf =>
  cases t with
  | false=>cases M
  | true =>
   cases M;obtain⟨hf,ws,⟨j,k1,k2,k3,k4⟩,hv⟩:=R1.c.cell n _ a L ha hl;subst k3;refine⟨a,j,rfl,k1,λo u hx=>?_⟩
   obtain⟨R2,g2⟩:=R1.lock ha hf (Kv a o u);have hn:n<J.h.length:=(bW.mp L).1;have hF:cC F1.F a (Kv a o u) a=some (Kv a o u):=aF;have wk:Walk X.K ⟨cC F1.F a (Kv a o u),F1.μ⟩ (oq (j.map (·.1))) (Itd a o u j):=MC hF λz hz=>bD g2.s (k2 z hz)
   have Y:Sa X aa ab ⟨cC F1.F a (Kv a o u),F1.μ⟩ (Unl X D) ⟨J.ρ,J.h.set n BU⟩ (c9 g fb (oq (j.map (·.1)))):=by
    refine⟨q,d3,?_⟩;obtain⟨f | ⟨m,C⟩,vp⟩:=q
    ·cases f with
     | nx =>
      intro k E B N I;obtain⟨hn3,e4⟩:=b9 e1;cases e4;obtain⟨R4,g4⟩:=Rep.unlock (c:=⟨.fJ true (j.map (·.1)),cp⟩) N (I.m n a ha) (I.s _ _ hF) (g2.trans I) hf R1.c.base hn3 (.dT j) (λG g9=>⟨j,aF,λz hz=>bD g9 (k2 z hz),rfl,k4⟩) hv
      exact .inr ⟨a,j,o,u,hx,N.c.sub _ _ (I.s _ _ hF),T _ E _ R4 g4⟩
     | rt p=>cases e1;exact λv k B C' I b'=>T v k B C' (g2.trans I) b'
     | bk=>cases e1
     | ct=>cases e1
    ·cases e1
   generalize hps:oq (j.map (·.1))=d at wk Y
   generalize hF2:(⟨cC F1.F a (Kv a o u),F1.μ⟩:Fz)=F2 at R2 wk Y
   generalize (⟨J.ρ,J.h.set n BU⟩:cL)=l at R2 Y
   refine⟨λi m E B=>m=d.length-i/\i<=d.length/\∃k Q,Rep X.K aa ab k Q E B/\Gr F2 k/\Sa X aa ab k (Unl X D) Q (c9 g fb (d.drop i)),⟨d.length,by simp,dn _,F2,l,R2,Gr.refl _,Y⟩,?_⟩
   rintro i m E B ⟨rfl,hi,k,Q,N,s',Z⟩
   obtain⟨wg,wst⟩:=wk aa ab k Q E B N s' i;by_cases gg:i<d.length
   ·obtain⟨go,wy⟩:=wg d[i] (b6 gg);rw[ph gg]at Z;refine .inr ⟨go,λBe H2=>∃b l,Rep X.K aa ab b l Be H2/\Gr F2 b/\Sa X aa ab b (Unl X D) l (c9 g fb (d.drop (i+1))),λBe H2 n2=>⟨d.length-(i+1),by lia,rfl,gg,n2⟩,λx H2 y=>?_⟩
    obtain⟨b,R2,s2,b2⟩:=wy x H2 y;obtain⟨r,e1,T⟩:=At.bnd Z;obtain⟨T4,e3,e4⟩:=bt e1;subst e4;refine⟨b,Q,d[i],T4,R2,b2,e3,λqx H3 F3 R3 s3=>⟨F3,T4,R3,?_⟩⟩
    exact Sa.mT _ (λF4 kz QT H4 R4 g4 z=>⟨F4,kz,R4,(s'.trans (s2.trans s3)).trans g4,z⟩) (Sa.mono (T) (s2.trans s3))
   ·have e:i=d.length:=by lia
    subst e;rw[sM]at Z;exact .inl ⟨wst (kD (au _)),At.bg Z k E B N (Gr.refl _)⟩
 | _=>cases M
end
def G8{P:Program}{w:World}{H':Hp}{h1 d B:Heap}(x:mR P w H' h1)(i:∀b o,H' b=some o->∃f,B.get? b=some f)(j:B.StaysIn h1)(k:B.StaysIn d):mR P w H' d:=λa o e=>by
 have keep:∀b u g,H' b=some g->h1.get? b=some u->d.get? b=some u:=λb u g l q=>by
  obtain⟨f,c⟩:=i b g l;have:=j b f c;rw[q]at this;cases this;exact k b _ c
 refine(x a o e).yD (λb u h q=>?_) (λ_ q=>q) (λ_ _ q=>q) λ_ _ _ q=>q
 rcases h with rfl | h
 ·exact keep _ _ _ e q
 ·exact keep _ _ _ h q
def MD{l:List Env}{H H':Hp}{h h1 d B m:Heap}(u:Un (pV l) [] H H' h h1)(p:Dm H H')(r:∀b o,H' b=some o->∃c,B.get? b=some c)(i:∀b c,h.get? b=some c->H b=none->b∉pV l->B.get? b=some c)
  (f:B.StaysIn d) (t:h1.FunFrames m l) (up:h1.UpToSlots d):Un (pV l) [] H H' h d:=by
 have slot:∀b o,h.get? b=some o->H b=none->b∈pV l->∃j,d.get? b=some {o with slots:=j}:=λb o q n a=>by
  obtain⟨j,e⟩:=u.slot b o q n a (by simp)
  obtain⟨_,D,k,hd⟩:=t.mem a;rw[e]at k;cases k;obtain⟨w,x⟩:=up b _ e hd;exact⟨w,x⟩
 refine⟨λb o q n a _=>f b o (i b o q n a),λb o q n a _=>slot b o q n a,u.free,λb o q E=>?_,u.tups,u.frzs,u.tbls⟩
 cases z:H b with
 | none =>
  by_cases a:b∈pV l
  ·grind
  ·exact⟨o,f b o (i b o q z a)⟩
 | some v =>
  obtain⟨y,C⟩:=p b v z;obtain⟨c,g⟩:=r b y C;exact⟨c,f b c g⟩
def Jr{P:Program}{w:World}{H:Hp}{h:Heap}{a:Addr}{o:HO}(x:gw P w H h a o):∃b,h.get? a=some b:=by
 cases o with
 | lst xs=>obtain⟨_,_,_,_,e⟩:=x;exact⟨_,e⟩
 | aq xs=>obtain⟨_,_,_,b,e,_⟩:=x;exact⟨_,e⟩
 | dK c=>obtain⟨_,_,_,_,o,_,_,e,_⟩:=x;exact⟨_,e⟩
 | dT c=>obtain⟨_,_,o,_,_,e,_⟩:=x;exact⟨_,e⟩
 | set S n=>obtain⟨o,_,_,_,e,_⟩:=x;exact⟨_,e⟩
 | qu C d fs=>obtain⟨_,_,_,e,_⟩:=x;exact⟨_,e⟩
 | own y=>obtain⟨_,e⟩:=x;exact⟨_,e⟩
 | xd fs=>obtain⟨_,⟨_,_,_,e,_⟩,_⟩:=x;exact⟨_,e⟩
 | rng lo g=>obtain⟨_,_,_,e⟩:=x;exact⟨_,e⟩
 | qw b u=>obtain⟨e,_⟩:=x;exact⟨_,e⟩
 | Ef q=>obtain⟨_,e,_⟩:=x;exact⟨_,e⟩
 | met f y=>exact⟨_,show h.get? a=some _ from x⟩
 | ext i=>obtain⟨_,⟨_,e⟩,_⟩:=x;exact⟨_,e⟩
section
variable {P:Program} {w:World} {K:W.Frag} {mg:Str->Option Value} {base:Heap} {N:List Str} {qual:Str} {scope:Scope} {f:Addr} {cd:Value} {A:Around} {aB:List Env} {s:Shared} {H:Hp} {E E1:XK} {ae:List (Addr×Obj)} {σ:St} {H1:Hp} {s1 s':Shared} {e:Value}
def G9(I:Inv (fP (jn P w) P w K mg base N qual scope f cd A aB s H E) ae σ H1 s1){b:Addr}{a:Obj}(q:s.heap.get? b=some a)(c:b∉pV aB):b∉pV (envOfC qual scope s.heap.objs.size f cd::aB):=λd=>by
 rcases aU.mp (I.yE b d)with z | z
 ·exact absurd (bf q) (by rw[z];exact gU _)
 ·exact c z
def BW(I:Inv (fP (jn P w) P w K mg base N qual scope f cd A aB s H E) ae σ H1 s1)(h:jn P w (envOfC qual scope s.heap.objs.size f cd::aB) H1 s1 E1 e s')(m:∀c d,E1 c none d->Dm H d/\E c none d) :
  (fP (jn P w) P w K mg base N qual scope f cd A aB s H E).xe e s':=by
 obtain⟨a,c,u,B,d,rfl,t,i,un,j,y,he,o,p,v⟩:=h;obtain⟨k,m⟩:=m c d he;have x:=I.Tp t un j i (λb z=>absurd z (by simp))
 refine wpAny_leaves_onW I.ok.frames rfl o λC r up=>?_
 have l:∀b g,s.heap.get? b=some g->H b=none->b∉pV aB->B.get? b=some g:=λb g q n i=>v b g (I.base.keep b g q n i (by simp[fP])) (I.base.free b g q n (by simp[fP])) (G9 I q i)
 exact⟨a,c,u,B,d,rfl,t.trans I.os,i,MD x.base k p l r.1 o.2.2.1.2.2 up,G8 j p o.1 r.1,k,m,r,p,l⟩
def Ha{h1:Heap}{a:Addr}{d:Value}{vs:List Value}(I:Inv (fP (jn P w) P w K mg base N qual scope f cd A aB s H E) ae σ H1 s1)(h:Heap.MadeExcOf s1.heap h1 a d vs)(i:Dm H H1)(p:E d none H1) :
  (fP (jn P w) P w K mg base N qual scope f cd A aB s H E).xe (.ref a) {s1 with heap:=h1}:=by
 have j:∀b o,H1 b=some o->∃c,(W.hideAll s1.heap (pV (envOfC qual scope s.heap.objs.size f cd::aB))).get? b=some c:=λb o e=>by
  obtain⟨c,q⟩:=Jr (I.hok b o e);exact⟨c,W.hideAll_get _ q λg=>by
   have:=I.yF b g;rw[e]at this;cases this⟩
 have m:∀b c,s.heap.get? b=some c->H b=none->b∉pV aB->(W.hideAll s1.heap (pV (envOfC qual scope s.heap.objs.size f cd::aB))).get? b=some c:=λb c q n g =>
  W.hideAll_get _ (I.base.keep b c q n g (by simp[fP])) (G9 I q g)
 refine wpAny_leaves_madeW I.ok.frames rfl (λb o q=>W.of_hideAll _ q) (W.funFrames_hide I.stack λk he b g=>sE.mpr ⟨k,he,g⟩) h λr t l aq u up=>?_
 refine⟨a,d,.ref t,_,H1,rfl,I.os,I.bare,MD (I.base.trans (Un.kept h.keeps)) i j m l.1 (I.funs.of_keeps λb o q _=>⟨o,h.keeps b o q,rfl⟩) up,G8 (I.hok.kept h.keeps) j (λb o q=>h.keeps b o (W.of_hideAll _ q)) l.1,i,p,l,j,m⟩
end
def EZ(K:W.Frag)(f:Addr)(b:Value):Prop:=∃c d a e,K.lookup f=some ⟨c,d,.func a,e⟩/\a.code=b
def RF{P:Program}{w:World}{K:W.Frag}{e:Str->Option Value}{a:Heap}{x qual:Str}{st:Stmt}{f:Addr}{g:FuncData}{N ps:List Str}{k:Nat}{c:Sp}(F:Eg K x qual st f g)(S:dP N ps (az st))(len:∀vs H Q E,c vs H Q E->vs.length=ps.length)
  (hbody:∀(b:Value) (A:Around) (d:List Env) (s:Shared) (H:Hp) (vs:List V) (Q:VK) (E:XK),EZ K f b->dW k (A.deeper (envOfC qual (az st) s.heap.objs.size f b))->c vs H Q E ->
   ∃t,PSs (fP (jn P w) P w K e a N qual (az st) f b A d s H E) (dz st) t/\t {nx:=λ_ H'=>Q .bM H',rt:=Q} (start N vs) H):FnOk P w K e a (jn P w) (k+1) f g ps c:=by
 obtain⟨i,j,kV,l,r,u,b,ct,m,rfl,h,o⟩:=F.ex;exact LC h o S len λA d s H vs Q E p q=>hbody b A d s H vs Q E ⟨i,j,_,m,h,rfl⟩ p q
def rg(H:Hp)(a:List Addr):Hp:=λb=>if b∈a then none else H b
section
variable {K:W.Frag} {aa H H':Hp} {ab F F':Fz} {h h':List aw}
def Js{a:List Addr}{b:Addr}{o:HO}(e:rg H a b=some o):H b=some o/\b∉a:=by
 unfold rg at e;split at e
 ·cases e
 ·grind
def Jt{a:List Addr}{b:Addr}(e:rg H a b=none):H b=none\/b∈a:=by
 unfold rg at e;split at e
 ·grind
 ·grind
def lG.enter(C:lG K aa ab F h H):lG K (rg H F.μ) F F h H/\∀b o,H b=some o->rg H F.μ b=some o\/∃n:Nat,F.μ[n]?=some b:=by
 refine⟨⟨C.sub,λb o e=>(Js e).1,Gr.refl F,λa o e=>.inl e,λn a e=>⟨if_pos (dc e),(C.new n a e).2⟩,C.hl,C.nd,C.cell⟩,λb o e=>?_⟩
 by_cases d:b∈F.μ
 ·obtain⟨n,f⟩:=pz.mp d;exact .inr ⟨n,f⟩
 ·exact .inl (by unfold rg;rw[if_neg d];exact e)
def lG.leave(C:lG K aa ab F h H)(D:lG K (rg H F.μ) F F' h' H'):lG K aa ab F' h' H':=by
 have d:∀a,rg H F.μ a=none->aa a=none:=λa e=>by
  rcases Jt e with z | z
  ·exact C.keep.free z
  ·obtain⟨n,f⟩:=pz.mp z;exact(C.new n a f).1
 refine⟨D.sub,λb o e=>D.keep b o ?_,C.base.trans D.base,λa o e=>?_,λn a e=>⟨d a (D.new n a e).1,(D.new n a e).2⟩,D.hl,D.nd,D.cell⟩
 ·unfold rg;rw[if_neg λg=>?_]
  ·exact C.keep b o e
  ·obtain⟨n,f⟩:=pz.mp g;rw[(C.new n b f).1]at e;cases e
 ·rcases D.fresh a o e with z | z
  ·exact C.fresh a o z
  ·grind
end
abbrev p8:=List PV->List aw->Option (Rs PV×List aw)
def WY(K:W.Frag)(d:Hp)(F:Fz)(h':List aw)(Q:VK)(E:XK):Rs PV->Prop
 | .ok p=>∀v c a,lG K d F c h' a->bZ K c p v->Q v a
 | .ex _ C=>∀b c a,lG K d F c h' a->ClsAt K C b->E b none a
def Ju(K:W.Frag)(n:Nat)(f:p8):Sp:=λe H Q E=>∃a F h c r d,lG K a F F h H/\(∀b o,H b=some o->a b=some o\/∃n:Nat,F.μ[n]?=some b)/\aG K F c e/\c.length=n/\f c h=some (r,d)/\WY K a F d Q E r
noncomputable def gY(n:Nat)(ps:List PV):List (Option PV):=ps.map some++List.replicate (n-ps.length) none
noncomputable def abd:Rs dM×cL->Option (Rs PV×List aw)
 | (.ok (.rt p),st)=>some (.ok p,st.h)
 | (.ok .nx,st)=>some (.ok .bM,st.h)
 | (.ex m C,st)=>some (.ex m C,st.h)
 | _=>none
def er(fb:Gx dM)(n:Nat):p8:=λa h=>(fb ⟨gY n a,h⟩).bind abd
def BX{K:W.Frag}{F:Fz}{ps:List PV}{vs:List V}{N:List Str}(b:aG K F ps vs):Lc K F (gY N.length ps) (start N vs) where
 av:=λi p e=>by
  unfold gY at e;unfold start;by_cases a:i<ps.length
  ·rw[ij (by simpa using a),bP]at e
   cases z:ps[i]? with
   | none=>rw[z]at e;cases e
   | some q =>
    rw[z]at e;cases e;obtain⟨v,c,d⟩:=b.get z;refine⟨v,?_,d⟩;rw[ij (by simpa using (b.length▸a)),bP,c]
    rfl
  ·rw[mB (by simpa using a),List.getElem?_replicate]at e
   split at e<;>cases e
 len:=by unfold gY start;simp[b.length]
def Hb{K:W.Frag}{c H H':Hp}{F F':Fz}{h':List aw}(a:∀b o,H b=some o->c b=some o\/∃n:Nat,F.μ[n]?=some b)(D:lG K c F F' h' H'):Dm H H':=λb o e=>by
 rcases a b o e with z | ⟨n,d⟩
 ·exact⟨o,D.keep b o z⟩
 ·exact(D.new n b (D.base.m n b d)).2
def ME{P:Program}{w:World}{K:W.Frag}{y:Str->Option Value}{d:Heap}{x qual:Str}{st:Stmt}{f:Addr}{D:FuncData}{N ps:List Str}{k:Nat}{fb:Gx dM}(F:Eg K x qual st f D)(S:dP N ps (az st))
  (hbody:∀(o:Value) (A:Around) (t:List Env) (s:Shared) (H:Hp) (E:XK),EZ K f o->dW k (A.deeper (envOfC qual (az st) s.heap.objs.size f o))->∀(B:Hp) (T:Fz),
   PSs (fP (jn P w) P w K y d N qual (az st) f o A t s H E) (dz st) (tS (fP (jn P w) P w K y d N qual (az st) f o A t s H E) B T fb)):FnOk P w K y d (jn P w) (k+1) f D ps (Ju K ps.length (er fb N.length)):=by
 refine RF F S (by rintro J H Q E ⟨_,_,_,_,_,_,_,_,b,L,_⟩;rw[<-b.length];exact L) λo A t s H J Q E X Y Z=>?_
 obtain⟨B,F,h,as,r,h',C,i,b,L,hf,res⟩:=Z;refine⟨_,hbody o A t s H E X Y B F,F,⟨gY N.length as,h⟩,⟨C,BX b⟩,?_⟩;obtain⟨q,e1,u⟩:=aZ hf;refine⟨q,e1,?_⟩;rcases q with⟨f | ⟨m,c⟩,st⟩
 ·cases f with
  | rt=>cases u;exact λv j p C' g b'=>res v j p C' b'
  | nx=>cases u;exact λj M p R g=>res .bM j p R.c (dA.mpr rfl)
  | _=>cases u
 ·cases u;cases m with
  | true=>exact λj M p ae s1 h1 a l J R sf I hc hm=>Ha I hm (Hb i R.c) (res l j p R.c hc)
  | false=>exact λM ae H1 s1 e s' I h=>BW I h (by rintro l H2 ⟨hc,j,R,sf⟩;exact⟨Hb i R.c,res l j H2 R.c hc⟩)
mutual
def noRef:PV->Bool
 | .ref _=>false
 | .nd _ a=>ai a
 | _=>true
def ai:List PV->Bool
 | []=>true
 | p::a=>noRef p&&ai a
end
section
variable {K:W.Frag} {F:Fz} {μ:List Addr}
mutual
theorem bZ.any:∀{p:PV} {v:V},noRef p=true->bZ K F p v->bZ K ⟨F.F,μ⟩ p v
 | .bM,_,_,b=>dA.mpr (dA.mp b)
 | .bl _,_,_,b=>cj.mpr (cj.mp b)
 | .int _,_,_,b=>aH.mpr (aH.mp b)
 | .str _,_,_,b=>cZ.mpr (cZ.mp b)
 | .fn _,_,_,b=>tW.mpr (tW.mp b)
 | .ref _,_,h,_=>by simp[noRef]at h
 | .nd k g,_,h,b=>by
  obtain⟨a,c,d,e,f⟩:=jJ.mp b;exact jJ.mpr ⟨a,c,d,e,aG.any h f⟩
theorem aG.any:∀{ps:List PV} {vs:List V},ai ps=true->aG K F ps vs->aG K ⟨F.F,μ⟩ ps vs
 | [],_,_,b=>by rw[b.c5];exact .nil
 | _::_,_,h,b=>by
  simp only[ai,aY]at h;obtain⟨v,r,rfl,a,b2⟩:=b.cG;exact .cons (a.any h.1) (aG.any h.2 b2)
end
end
def wY(h:List aw):Nat->PV->Option PV
 | 0,p=>if noRef p=true then some p else none
 | n+1,p=>if noRef p=true then some p else match p with
  | .ref m=>(h[m]?).bind λc=>if live c=true then(dj (wY h n) c.ps).map (.nd c.k)else none
  | .nd k a=>(dj (wY h n) a).map (.nd k)
  | _=>none
open Classical in
noncomputable def lV (F:Fz) (h:List aw) (H:Hp):Hp:=λa=>match F.F a with
 | some o=>some o
 | none=>if(∃(n:Nat) (c:aw),F.μ[n]?=some a/\h[n]?=some c/\live c=true)then H a else none
section
variable {K:W.Frag} {aa H:Hp} {ab F:Fz} {h:List aw}
def js{a:Addr}{o:HO}(e:F.F a=some o):lV F h H a=some o:=by unfold lV;rw[e]
def Jv{a:Addr}{n:Nat}{c:aw}(e:F.F a=none)(h1:F.μ[n]?=some a)(b:h[n]?=some c)(d:live c=true):lV F h H a=H a:=by
 unfold lV;rw[e];exact if_pos ⟨n,c,h1,b,d⟩
def BY{a:Addr}{o:HO}(e:lV F h H a=some o):F.F a=some o\/(H a=some o/\∃n:Nat,F.μ[n]?=some a):=by
 unfold lV at e;split at e
 ·grind
 ·split at e
  ·grind
  ·cases e
def lG.wY(C:lG K aa ab F h H)(f:List Addr):∀(n:Nat) (p q:PV) (v:V),wY h n p=some q->bZ K F p v->bZ K ⟨lV F h H,f⟩ q v:=by
 have keep:∀{p:PV} {v:V},noRef p=true->bZ K F p v->bZ K ⟨lV F h H,f⟩ p v:=λl b =>
  bZ.mono (F:=⟨F.F,f⟩) (F':=⟨lV F h H,f⟩) ⟨λb o e=>js e,λ_ _ e=>e⟩ (b.any l)
 intro n;induction n with
 | zero =>
  intro p q v e b;obtain⟨l,rfl⟩:=aR e;exact keep l b
 | succ n ih =>
  intro p q v e b;unfold U.wY at e;split at e
  ·grind
  ·have list:∀(i g:List PV) d,dj (U.wY h n) i=some g->aG K F i d->aG K ⟨lV F h H,f⟩ g d:=by
    intro i;induction i with
    | nil=>intro g d e b;cases e;rw[b.c5];exact .nil
    | cons p i m =>
     intro g d e b;obtain⟨y,r,e1,j,rfl⟩:=gC e;obtain⟨v,w,rfl,B,b2⟩:=b.cG;exact .cons (ih p y v e1 B) (m r w j b2)
   split at e
   ·obtain⟨c,e1,e⟩:=aZ e;obtain⟨x,e⟩:=b9 e;obtain⟨g,j,rfl⟩:=bt e;obtain⟨a,k,t⟩:=dQ.mp b;obtain⟨hF,d,u,D⟩:=C.cell _ c a e1 k x;exact jJ.mpr ⟨a,d,t,u.to (λb o e=>js e) (λo e=>by rw[show(Fz.mk (lV F h H) f).F a=lV F h H a from rfl,Jv hF k e1 x];exact e) (λz=>by cases z),list _ _ _ j D⟩
   ·obtain⟨g,j,rfl⟩:=bt e;obtain⟨a,d,k,t,u⟩:=jJ.mp b;exact jJ.mpr ⟨a,d,k,t.to (λb o e=>js e) (λo e=>js e) id,list _ _ _ j u⟩
   ·cases e
end
section
variable {X:Cx} {aa:Hp} {ab:Fz} {e:Expr} {es:List Expr} {ts:Gx (List PV)} {pos p:Pos} {k n:Nat} {f:Addr} {fd:FuncData} {ps:List Str} {x:Str} {g:p8}
def rN{CX:Kq}{i:Sp}{E:XK}{j:List (Addr×Obj)}{l:St}{H:Hp}{s:Shared}{Q:VK}{a:List Value}{vs:List V}(F:FnOk X.prog X.w X.K X.mg X.base CX k f fd ps i)(m:dW k X.A)(o:gZ X.K fd ps [])(q:∀e d,CX X.stack H s E e d->X.xe e d)
  (I:Inv X j l H s) (r:Vals vs a) (h:i vs H Q E):wpAny (model X.prog X.w) X.A (call (.ref f) a) (EP X j l Q) X.xe s:=by
 have b:=o s a I.tj (by rw[eG,<-r.length];exact F.len _ _ _ _ h)
 rw[eG]at b;refine sX (kP (F.run X.A X.stack s H ⟨a,[]⟩ a vs Q E m I.PZ b r h) λr d c=>?_)
 cases r with
 | error e=>exact q e d c
 | ok t =>
  cases t with
  | ret u=>exact I.after c
  | next=>exact False.elim c
  | brk=>exact False.elim c
  | cont=>exact False.elim c
noncomputable def abe:Rs PV->Rs PV
 | .ok p=>.ok p
 | .ex _ C=>.ex false C
def ou(h:List aw)(p:PV):Option PV:=if h.isEmpty=true then some p else wY h 4 p
def WZ(st:cL):Rs PV×List aw->Option (Rs PV×cL)
 | (.ok p,h)=>(ou h p).map λq=>(.ok q,st)
 | (.ex _ C,_)=>some (.ex false C,st)
def E2(n:Nat)(g:p8)(as:List PV):Gx PV:=λa=>if as.length=n then(g as a.h).map λr=>(abe r.1,⟨a.ρ,r.2⟩)else none
def qa(n:Nat)(g:p8)(as:List PV):Gx PV:=λa=>if as.length=n/\(a.h.isEmpty || ai as)=true then(g as []).bind (WZ a)else none
def T8(n:Nat)(g:p8)(ts:Gx (List PV)):Gx PV:=bnd ts (qa n g)
def RG(X:Cx)(f:Addr)(w:List PV->Gx PV):Prop:=∀(aa H:Hp) (ab F:Fz) (st:cL) (σ:St) (a:List (Addr×Obj)) (s:Shared) (Q:VK) (as:List PV) (us:List Value) (b:List V),Inv X a σ H s->Rep X.K aa ab F st σ H->aG X.K F as b->Vals b us->Tx X aa ab (bZ X.K) F st (w as) σ Q ->
 wpAny (model X.prog X.w) X.A (call (.ref f) us) (EP X a σ Q) X.xe s
def afq(G:FnOk X.prog X.w X.K X.mg X.base (jn X.prog X.w) k f fd ps (Ju X.K n g))(o:dW k X.A)(t:gZ X.K fd ps []):RG X f (E2 n g):=by
 rintro aa H ab F st σ u s Q as us Z I R b r ⟨q,e1,y⟩
 obtain⟨B,e1⟩:=b9 e1;obtain⟨⟨M,E⟩,J,N⟩:=bt e1;subst N;obtain⟨C,a⟩:=R.c.enter;cases M with
 | ok p'=>exact rN G o t (λe d i=>Bz u σ H s e d I i) I r ⟨_,F,st.h,as,_,E,C,a,b,B,J,λv j L D T=>y v L j ⟨R.c.leave D,R.l.mono D.base⟩ D.base T⟩
 | ex m c=>exact thn (rN (Q:=λ_ _=>False) G o t (λe d i=>y σ u H s e d I i) I r ⟨_,F,st.h,as,_,E,C,a,b,B,J,λY j L D hc=>⟨hc,j,⟨R.c.leave D,R.l.mono D.base⟩,D.base⟩⟩) (by rintro v s3 ⟨_,_,_,_,z⟩;exact z.elim)
def Rep.back{K:W.Frag}{aa H h H':Hp}{ab F F':Fz}{i:List Addr}{st:cL}{σ:St}{h':List aw}(R:Rep K aa ab F st σ H)(d:cV H h)(D:lG K h ⟨F.F,i⟩ F' h' H'):Rep K aa ab ⟨lV F' h' H',F.μ⟩ st σ H'/\Gr F ⟨lV F' h' H',F.μ⟩:=by
 have g:cV F.F (lV F' h' H'):=λb o e=>js (D.base.s b o e)
 refine⟨R.after (d.trans D.keep) g rfl (λb o e=>?_) (λa o e=>?_),g,λ_ _ z=>z⟩
 ·rcases BY e with z | ⟨z,_⟩
  ·exact D.sub b o z
  ·exact z
 ·rcases BY e with z | ⟨_,n,z⟩
  ·exact(D.fresh a o z).imp_right d.free
  ·exact .inr (d.free (D.new n a z).1)
def lG.pure{K:W.Frag}{aa H:Hp}{ab F:Fz}{h:List aw}(C:lG K aa ab F h H):lG K H ⟨F.F,[]⟩ ⟨F.F,[]⟩ [] H :=
 ⟨C.sub,cV.refl H,Gr.refl _,λa o e=>.inl e,λn a e=>by simp at e,rfl,mO,λn c a e=>by simp at e⟩
def MF{K:W.Frag}{H H':Hp}{G F':Fz}{h':List aw}{p q:PV}{v:V}(c:List Addr)(D:lG K H G F' h' H')(e:ou h' p=some q)(b:bZ K F' p v):bZ K ⟨lV F' h' H',c⟩ q v:=by
 unfold ou at e;split at e
 ·rename_i z;cases e;have d:F'.μ=[]:=mz (by rw[<-D.hl,yk.mp z];rfl)
  exact b.mono ⟨λb o e=>js e,λn a e=>by rw[d]at e;simp at e⟩
 ·exact D.wY c _ _ _ _ e b
def wZ{K:W.Frag}{aa H:Hp}{ab F:Fz}{st:cL}{i:St}{as:List PV}{vs:List V}(R:Rep K aa ab F st i H)(j:(st.h.isEmpty || ai as)=true)(b:aG K F as vs)(d:List Addr):aG K ⟨F.F,d⟩ as vs:=by
 rcases Ee _ _▸j with z | z
 ·have l:F.μ=[]:=mz (by rw[<-R.c.hl,yk.mp z];rfl)
  exact aG.mono (F:=F) (F':=⟨F.F,d⟩) ⟨cV.refl _,λn a e=>by rw[l]at e;simp at e⟩ b
 ·exact b.any z
def abf(G:FnOk X.prog X.w X.K X.mg X.base (jn X.prog X.w) k f fd ps (Ju X.K n g))(l:dW k X.A)(t:gZ X.K fd ps []):RG X f (qa n g):=by
 rintro aa H ab F st σ u s Q as us vs I R b r ⟨q,e1,y⟩
 obtain⟨⟨B,N⟩,e1⟩:=b9 e1;obtain⟨⟨T,C⟩,E,J⟩:=aZ e1;have a:∀b o,H b=some o->H b=some o\/∃n:Nat,(Fz.mk F.F []).μ[n]?=some b:=by grind
 have L:=wZ R N b [];cases T with
 | ok p' =>
  obtain⟨p2,Y,Z⟩:=bt J;subst Z;refine rN G l t (λe d h=>Bz u σ H s e d I h) I r ⟨H,⟨F.F,[]⟩,[],as,_,C,R.c.pure,a,L,B,E,λv F' M D b'=>?_⟩
  obtain⟨i,j⟩:=R.back (cV.refl _) D;exact y v M _ i j (MF F.μ D Y b')
 | ex m c =>
  cases J;refine thn (rN (Q:=λ_ _=>False) G l t (λe d h=>y σ u H s e d I h) I r ⟨H,⟨F.F,[]⟩,[],as,_,C,R.c.pure,a,L,B,E,λcls F' M D hc=>?_⟩) (by rintro v s3 ⟨_,_,_,_,z⟩;exact z.elim)
  obtain⟨i,j⟩:=R.back (cV.refl _) D;exact⟨hc,_,i,j⟩
def W0{w:List PV->Gx PV}(G:RG X f w)(i:Gl X x)(j:X.mg x=some (.ref f))(hk:W.keepIn X.K (.ref f)=true)(l:PA X (e::es) (tA X aa ab ts))(m:(x==("__debug__":Str))=false)
  (he:starEach (e::es) X.env=(false,eval e X.env)::starEach es X.env) (o:(backTo pos (starEach es X.env)).any (·.1)=false):PE X (.Call (.Name x p) (e::es) [] pos) (tE X aa ab (bnd ts w)):=by
 rintro q s σ H Q I ⟨F1,st,R,h⟩
 refine kJ (ld_glob I i j ?_ m);exact W.callWith_K I.ok.mod.kin hk (thn (l pos q s σ H (λb c=>∃F2 a as,Rep X.K aa ab F2 a σ c/\aG X.K F2 as b/\Tx X aa ab (bZ X.K) F2 a (w as) σ Q) I
  ⟨F1,st,R,h.bnd λas b F2 a c R2 u b2 t=>⟨F2,a,as,R2,b2,t⟩⟩) (by rintro us s1 ⟨b,c,d,r,F2,a,as,R2,b2,z⟩;exact⟨d.tj,G _ _ _ _ _ _ _ _ _ _ _ _ d R2 b2 r z⟩)) he o
end
end L2.U
namespace L2
open PySem PySem.Spec PyProof.Rows
section
variable {X:Cx} {ae:List (Addr×Obj)} {σ:St} {H:Hp} {s:Shared} {a b:Addr} {k:List bE} {xs:List (List bE×Addr×Value)}
theorem jt{c d:Type}(f:c->d):∀(l:List c) (i:Nat),(l.eraseIdx i).map f=(l.map f).eraseIdx i
 | [],_=>rfl
 | _::_,0=>rfl
 | x::l,i+1=>dq (f x::·) (jt f l i)
def abg(K:W.Frag):V->List V->Hp->VK->Prop:=λx c H Q=>∃a b xs k j p y,x=.ref a/\c=[.ref b]/\H a=some (.dT xs)/\fY K H xs/\iG K H b (k.map kV)/\xs[j]?=some (k,p)/\RelV y p.2/\Q y (cC H a (.dT (xs.eraseIdx j)))
def W2{c d:Type}{xs:List (c×d)}{i j:Nat}{k:c}{p q:d}(e:(xs.map (·.1)).Nodup)(h1:xs[i]?=some (k,p))(f:xs[j]?=some (k,q)):i=j:=by
 refine(DZ (l:=xs.map (·.1)) ?_ e).mp ?_
 ·rw[ao];exact(bW.mp h1).1
 ·rw[bP,bP,h1,f];rfl
def W3(hu:X.A.units+1150<cLine):Z8 X "dict.pop" (abg X.K):=by
 intro ae s σ H x vs v us Q I J L h;obtain⟨a,b,xs,k,j,p,y,rfl,rfl,e,hk,M,r,N,q⟩:=h;cases J;obtain⟨u1,rfl,R⟩:=L.one;cases R;obtain⟨z,hd,D⟩:=wI I (.inl e) hk;have E:=D.typeIs;obtain⟨o,t,ep,f,T,d,m,Y,u⟩:=D;have g:t[j]?=some (entryOfKey (tupleKind (cB X.prog X.w)) (k,p)):=by rw[entry_at m,r];rfl
 have ky:=key_is I M;have i:(tupleKind (cB X.prog X.w)).room X.A.in1:=sF (by lia)
 refine fX PySem.F.slot_dict_pop E PySem.F.entry_dict_pop ?_ (PySem.F.args_dict_pop_2 _ _);unfold Builtin.«dict.pop» Builtin.Dict.keyAndDefault;refine ag (ag (DQ E ?_));show wpAny _ _ (pure (a,Value.ref b,none)) _ _ s;refine aj ?_;simp only[show(keyPart (Value.ref b)).isSome=false from rfl,jF,fF]
 refine ag (sJ f d (ag (aj ?_)));have B:t.isEmpty=false:=by
  rw[Array.isEmpty_eq_false_iff]
  rintro rfl
  simp at g
 rw[B];simp only[jF,fF];refine ag ?_;unfold Builtin.Dict.takeOut
 try with_reducible refine dZ ?_
 refine ag ((tupleKind (cB X.prog X.w)).pyHash i ky (ag (wpAny_dictFind_heap (s:={s with toks:=s.toks+(tupleKind (cB X.prog X.w)).draws k}) i ky f d m Y u (λZ=>absurd r (Z j p)) λj' p' C=>?_)))
 cases W2 u r C;refine ag (sJ (s:={s with toks:=s.toks+(tupleKind (cB X.prog X.w)).draws k}) f d ?_)
 rw[g];refine ag (wpAny_updateDictKeys (hz:=by rw[size_of_entries m];exact z) (s:={s with toks:=s.toks+(tupleKind (cB X.prog X.w)).draws k}) f d (aj ?_))
 simp only[Option.isNone_some,jF,fF];refine ag (wpAny_letGo (aj ⟨_,rfl,y,_,I.write (x:=a) (e:=a) (o:=.dT (xs.eraseIdx j)) (by rw[e];exact True.intro) (.inl rfl) (λc q' hc z=>((jD ..).2 c hc).trans z) ⟨_,kC _ f (Obj.isFreed_of_dict (DS d _))⟩ ⟨?_,hd,_,_,_,kC _ f (Obj.isFreed_of_dict (DS d _)),T.mapDictKeys _,DS d _,?_,?_⟩,N,q⟩))
 ·exact bA (List.length_eraseIdx_le ..) z
 ·rw[jt,<-m];obtain⟨l⟩:=t;simp
 ·rw[jt];exact u.sublist (List.eraseIdx_sublist ..)
end
end L2
namespace L2.U
open PySem PySem.Spec PyProof.Rows
def MH:MG:=λc as=>match c.k,as with
 | .fJ true ks,[a]=>(iz true a).bind λk=>(ks.findIdx? λx=>decide (x=k)).bind λj=>(c.ps[j]?).map λp=>(⟨.fJ true (ks.eraseIdx j),c.ps.eraseIdx j⟩,p)
 | _,_=>none
section
variable {X:Cx}
def RH:BI X.K (abg X.K) MH:=by
 intro aa H ab F st σ n c c' a as ws q Q R hc l m d x k;unfold MH at d;split at d
 ·rename_i ks kp hk;obtain⟨o,e1,B⟩:=aZ d;obtain⟨j,C,D⟩:=aZ B;obtain⟨p,E,I⟩:=bt D;cases I;obtain⟨w1,rfl,J⟩:=dU x;obtain⟨L,rfl,M⟩:=k8 e1 J;obtain⟨_,vs,r,f⟩:=R.c.cell n c a hc m l;rw[hk]at r;obtain⟨b,N,t,T,v⟩:=r;obtain⟨g,e,_⟩:=xQ.mp C;have e:=dw e;subst T;rw[ao]at g;rw[List.getElem_map]at e;have Y:b[j]?=some (o,b[j].2):=by rw[b6 g,<-e]
  obtain⟨y,Z,h⟩:=f.get E;obtain⟨u,w,ry⟩:=v.get Z;rw[bP,b6 g]at w;cases w;refine⟨a,L,b,o,j,b[j].2,y,rfl,rfl,N,λz i=>bD R.sub (t z i),bD R.sub M,Y,ry,k y F _ (R.put (vs:=vs.eraseIdx j) hc l m ⟨b.eraseIdx j,aF,λz i=>t z (List.mem_of_mem_eraseIdx i),jt _ _ _,by rw[jt];exact v.eraseIdx j⟩ ?_) (Gr.refl _) ?_⟩
  ·show aG _ _ (c.ps.eraseIdx j) (vs.eraseIdx j);rw[KC,KC];exact(f.take _).append (f.drop _)
  ·exact h
 ·cases d
end
def abh(T:String):Kd->Bool
 | .lst=>T=="list"
 | .fJ _ _=>T=="dict"
 | _=>false
def tyG(T:String)(p:PV):Gx Unit:=hp λh=>(cS h p).bind λq=>if abh T q.1=true then some ()else none
section
variable {X:Cx} {aa:Hp} {ab:Fz} {e o:Expr} {es:List Expr} {fo fe:Gx PV} {ts:Gx (List PV)} {pos sY lR:Pos} {T id:String} {name:Str} {r:V->List V->Hp->VK->Prop}
def Rep.tyV{K:W.Frag}{st:cL}(R:Rep K aa ab F st σ H)(e:cS st.h p=some (k,ps))(ht:abh T k=true)(b:bZ K F p v):L2.tyV K T v H:=by
 obtain⟨a,g,rfl,d,i⟩:=R.at e b
 match k,ht,d with
 | .lst,ht,d=>exact .inl ⟨bh ht,g,lB.sq d⟩
 | .fJ false ks,ht,⟨f,d,_⟩=>exact .inr (.inr (.inl ⟨bh ht,.inl ⟨f,d⟩⟩))
 | .fJ true ks,ht,⟨xs,d,_⟩=>exact .inr (.inr (.inl ⟨bh ht,.inr ⟨xs,d⟩⟩))
def E3(T:String)(w:PV->List PV->Gx PV)(fo:Gx PV)(ts:Gx (List PV)):Gx PV:=bnd fo λp=>bnd (tyG T p) λ_=>bnd ts λas=>w p as
def WdT(X:Cx)(r:V->List V->Hp->VK->Prop)(w:PV->List PV->Gx PV):Prop:=∀(aa H:Hp) (ab F:Fz) (st:cL) (σ:St) (p:PV) (as:List PV) (v:V) (ws:List V) (Q:VK),Tx X aa ab (bZ X.K) F st (w p as) σ Q->Rep X.K aa ab F st σ H->bZ X.K F p v->aG X.K F as ws->r v ws H Q
def uk(hw:WdT X r w)(h:tE X aa ab (E3 T w fo ts) σ H Q):tBM X.K T r (tE X aa ab fo) (tA X aa ab ts) σ H Q:=by
 obtain⟨F,d,R,h⟩:=h;refine⟨F,d,R,h.bnd λp v F1 f q b t c g=>?_⟩
 obtain⟨u,e,z⟩:=At.hp (At.bnd g);obtain⟨⟨k,x⟩,e1,i⟩:=aZ e;obtain⟨hk,_⟩:=aR i;refine⟨b.tyV e1 hk c,F1,f,b,Tx.bnd z λas ws F2 a j R2 l b2 m=>hw aa j ab F2 a σ p as v ws Q m R2 (c.mono l) b2⟩
def RI(hw:WdT X r w)(h:tE X aa ab (E3 T w fo (bg [])) σ H Q):aaa X.K T r (tE X aa ab fo) σ H Q:=by
 obtain⟨F,c,R,h⟩:=h;refine⟨F,c,R,h.bnd λp v F1 d f a j b g=>?_⟩
 obtain⟨u,e,z⟩:=At.hp (At.bnd g);obtain⟨⟨k,l⟩,e1,i⟩:=aZ e;obtain⟨hk,_⟩:=aR i;exact⟨a.tyV e1 hk b,hw aa f ab F1 d σ p [] v [] Q (At.bg (At.bnd z)) a b .nil⟩
def um(a:BI X.K r g):WdT X r (kr g):=λ_ _ _ _ _ _ _ _ _ _ _ h R b c=>Tx.mut a h R b c
def W4:WdT X (WJ X.K) BJ:=λ_ _ _ _ _ _ _ _ _ _ _ h R a b=>Tx.ext h R a b
def Hc(m:Str):Option (String×(PV->List PV->Gx PV)) :=
 if m==("append":Str)then some ("list",kr (iH zi))
 else if m==("extend":Str)then some ("list",BJ)
 else if m==("insert":Str)then some ("list",kr (iH Mg))
 else if m==("setdefault":Str)then some ("dict",kr Jm)
 else if m==("pop":Str)then some ("dict",kr MH)
 else none
def E4(m:Str):Option (String×(PV->List PV->Gx PV)) :=
 if m==("reverse":Str)then some ("list",kr (iH Ri))
 else if m==("pop":Str)then none
 else if m==("clear":Str)then none
 else none
def afr(j:X.A.units+1150<cLine)(ht:Hc name=some (T,w))(ho:PE X o (tE X aa ab fo))(b:PA X (e::es) (tA X aa ab ts))(c:attributeBase o name X.env (eval o X.env)=eval o X.env)
  (d:((backTo lR (starEach (e::es) X.env)).all (λx=>!x.1)&&(backToKw lR (keywordEach [] X.env)).all (λx=>x.1.isSome)&&decide ((e::es).length+([]:List Keyword).length+(if([]:List Keyword).isEmpty then 0 else 1)<30))=true)
  (f:(sY.endLine==lR.line)=true) (g:starEach (e::es) X.env=(false,eval e X.env)::starEach es X.env) (i:(backTo lR (starEach es X.env)).any (·.1)=false):PE X (.Call (.Attribute o name sY) (e::es) [] lR) (tE X aa ab (E3 T w fo ts)):=by
 unfold Hc at ht;split at ht
 ·rename_i a;cases ht;have a:=bh a;subst a;exact(Bj xU PySem.F.slot_list_append PySem.F.type_list_append IL ho b c d f g i).imp λ_ _ _ h=>uk (um Rh) h
 ·split at ht
  ·rename_i a;cases ht;have a:=bh a;subst a;exact(Bj xU PySem.F.slot_list_extend PySem.F.type_list_extend WK ho b c d f g i).imp λ_ _ _ h=>uk W4 h
  ·split at ht
   ·rename_i a;cases ht;have a:=bh a;subst a;exact(Bj xU PySem.F.slot_list_insert PySem.F.type_list_insert Jl ho b c d f g i).imp λ_ _ _ h=>uk (um Rl) h
   ·split at ht
    ·rename_i a;cases ht;have a:=bh a;subst a;exact(Bj PySem.F.plainAttrs_dict KH PySem.F.type_dict_setdefault WH ho b c d f g i).imp λ_ _ _ h=>uk (um Rm) h
    ·split at ht
     ·rename_i a;cases ht;have a:=bh a;subst a;exact(Bj PySem.F.plainAttrs_dict PySem.F.slot_dict_pop PySem.F.type_dict_pop (W3 j) ho b c d f g i).imp λ_ _ _ h=>uk (um RH) h
     ·cases ht
def abi(ht:E4 name=some (T,w))(ho:PE X o (tE X aa ab fo))(b:attributeBase o name X.env (eval o X.env)=eval o X.env)(c:(sY.endLine==lR.line)=true) :
  PE X (.Call (.Attribute o name sY) [] [] lR) (tE X aa ab (E3 T w fo (bg []))):=by
 unfold E4 at ht;split at ht
 ·rename_i a;cases ht;have a:=bh a;subst a;exact(LI xU PySem.F.slot_list_reverse PySem.F.type_list_reverse ED ho b c).imp λ_ _ _ h=>RI (um Rj) h
 ·grind
def zw(f b d:PV):cL->Option cL:=λa=>(rf a.h f).bind λc=>match c.2.k with
 | .lst=>(oh b).bind λi=>(OX c.2.ps.length i).map λj=>⟨a.ρ,a.h.set c.1 ⟨.lst,c.2.ps.set j d⟩⟩
 | .fJ t ks=>(iz t b).bind λk=>if ks.length<gu then some ⟨a.ρ,a.h.set c.1 (m4 t k d ks c.2.ps)⟩else none
 | _=>none
def afs(K:W.Frag):Li:=λo i v H Q=>∃aa ab F a b c d f g,zw c d f a=some g/\Rep K aa ab F a b H/\bZ K F c o/\bZ K F d i/\bZ K F f v/\∀h j,Rep K aa ab j g b h->Gr F j->Q h
def abj(hu:X.A.units+1150<cLine):Lj X (afs X.K):=by
 rintro w s σ H o i v x y u Q I B C D ⟨aa,ab,F,st,τ,po,pi,pv,aD,e,R,bo,bi,bv,k⟩
 obtain⟨⟨n,c⟩,e1,N⟩:=aZ e;clear e;have e:=N;clear N;obtain⟨rfl,hc,h⟩:=jo e1;obtain⟨a,l,rfl⟩:=dQ.mp bo;obtain⟨_,vs,d,f⟩:=R.c.cell n c a hc l h;split at e
 ·rename_i hk;obtain⟨j,p,e⟩:=aZ e;obtain⟨m,e3,rfl⟩:=bt e;rw[gD p]at bi;have hk:=hk;rw[hk]at d;refine LG w s σ H _ _ v x y u Q I B C D ⟨a,vs,j,m,rfl,aH.mp bi,d,by rw[<-f.length];exact e3,k _ F (R.put hc h l aF (f.set bv m)) (Gr.refl _)⟩
 ·rename_i t ks hk;have hk:=hk;obtain⟨kk,p,e⟩:=aZ e;obtain⟨Y,rfl⟩:=aR e;rw[hk]at d;cases t with
  | false =>
   obtain⟨b,E,q,J⟩:=d;obtain⟨j,rfl,rfl⟩:=k0 p bi;rw[<-J]at f;obtain⟨zf,DA,g,L,M⟩:=Mc (j:=j) bv f;have eQ:b.length<sizeLine:=by
    have:ks.length=b.length:=by grind
    exact cb (by grind) (gh (au _))
   rw[q]at g;refine WL w s σ H _ _ v x y u Q I B C D ⟨a,b,j,rfl,rfl,E,eQ,k _ F ?_ (Gr.refl _)⟩;simp only[g];exact R.put hc h l ⟨_,aF,L,rfl⟩ M
  | true =>
   obtain⟨Z,E,q,J,g4⟩:=d;obtain⟨cc,rfl,Y4⟩:=k8 p bi;refine WM (by lia) w s σ H _ _ v x y u Q I B C D ⟨a,cc,Z,kk,rfl,rfl,E,λz Y=>bD R.sub (q z Y),bD R.sub Y4,(by
    have:ks.length=Z.length:=by grind
    exact cb (by grind) (gh (au _))),λr hr=>?_⟩
   obtain⟨zf,DA,yT,g,L,M,p4,p5⟩:=WE bv hr Y4 q f g4;rw[J]at g;refine k _ F ?_ (Gr.refl _);simp only[g];exact R.put hc h l ⟨_,aF,M,L,p5⟩ p4
 ·cases e
def RJ(a fo fi:Gx PV):Gx dM:=bnd a λv=>bnd fo λo=>bnd fi λi=>stp (zw o i v)
def abk(g:X.A.units+1150<cLine)(he:PE X e (tE X aa ab j))(ho:PE X o (tE X aa ab fo))(l:PE X k (tE X aa ab fi))
  (m:∀v,assign (.Subscript o k a) X.env v=(do
   let b <-holding [v] (eval o X.env)
   let c <-holding [v,b] (eval k X.env)
   standAt a
   holding [v,b,c] (setItem b c v)
   release [v,b,c] []))
  (p:swapsWithSole [.Subscript o k a] e pos.line X.env=pure false) (hw:swappedStores [.Subscript o k a] e X.env=pure none):PS X (.Assign [.Subscript o k a] e pos) (tS X aa ab (RJ j fo fi)) :=
 (Ll he (Vz ho l (abj g) m) p hw rfl).imp λD σ H ⟨F,st,R,h⟩=>⟨F,st,R,h.bnd λq v F1 t H1 u g1 w x=>⟨F1,t,u,x.bnd λy o F2 d H2 R2 B b2 C=>⟨F2,d,R2,C.bnd λE i I J H3 L f M N=>by
  obtain⟨Q,e,z⟩:=N.stp;exact⟨aa,ab,I,J,σ,y,E,q,Q,e,L,b2.mono f,M,w.mono (B.trans f),λY Z R' g'=>z Z σ Y R' g'⟩⟩⟩⟩
def MI(t:Bool):Gx PV:=mY ⟨.fJ t [],[]⟩
def abl(t:Bool):PE X (.Dict [] [] pos) (tE X aa ab (MI t)):=by
 cases t with
 | false=>exact Mf.imp (by rintro σ H Q ⟨F,st,R,h⟩ p hp;exact Tx.mY h R hp ⟨[],aF,rfl,rfl⟩ .nil)
 | true=>exact QH.imp (by rintro σ H Q ⟨F,st,R,h⟩ p hp;exact Tx.mY h R hp ⟨[],aF,(λ_ z=>nomatch z),rfl,.nil⟩ .nil)
end
def Hd(K:W.Frag)(b:Str->Option Value)(P:Params)(T:Str)(rows:List (Str×Str)):Prop :=
 ∃a c n,b T=some (.ref a)/\K.lookup a=some ⟨.type "dict",none,.dict c n,#[]⟩/\W.KeysLit P c.toList/\∀k fn,rows.lookup k=some fn->∃f,W.nsIn K a k=some (some (.ref f))/\b fn=some (.ref f)/\W.nsIn K mainGlobals fn=some (some (.ref f))
def aft(K:W.Frag)(a:Addr):R2:=λx y H Q=>∃k u v,x=.ref a/\y=.str k/\W.nsIn K a k=some (some u)/\RelV v u/\Q v H
def W5:PV->Option Str | .str x=>some x | _=>none
def Jw(h:W5 p=some i):p=.str i:=by
 cases p<;>first | (cases h;rfl) | cases h
section
variable {X:Cx} {aa:Hp} {ab:Fz} {e ke:Expr} {es:List Expr} {fk fe ff:Gx PV} {ts:Gx (List PV)} {pos p sp:Pos} {T:Str}
def W6{es:Array DictEntry}(b:X.K.lookup a=some ⟨.type "dict",none,.dict es n,#[]⟩)(hk:W.KeysLit X.w.params es.toList):Y6 X (aft X.K a):=by
 rintro value slice l s σ H x y v u Q I d f ⟨k,m,g,ex,h,e,i,q⟩ j
 subst ex h;cases d;obtain⟨t,rfl⟩:=f;have c:=W.mapOf_K (prog:=X.prog) I.tj b hk;exact tail_any c.typeIs slot_dict_getitem.lookup (wpAny_getItem_of (strKind_is X.prog X.w k t) c (W.find_K b e) ⟨g,H,I.tok _,i,q⟩) j
def MJ(PQ:Str->Option PV)(fk:Gx PV):Gx PV:=bnd fk λq=>lH ((W5 q).bind PQ)
def abm(ht:Hd X.K X.mg X.w.params T rows)(c:Gl X T)(hk:PE X ke (tE X aa ab fk))(d:rF ke)(g:(T==("__debug__":Str))=false):PE X (.Subscript (.Name T p) ke sp) (tE X aa ab (MJ (λk=>(rows.lookup k).map .fn) fk)):=by
 obtain⟨a,D,n,i,j,l,m⟩:=ht;refine(Tw (W6 j l) (Gz (v:=.ref a) c i rfl g) hk d).imp λσ H Q ⟨F,st,R,h⟩=>?_
 refine⟨F,st,R,h.bnd λpk v F1 E o r I b t=>?_⟩
 obtain⟨q,e1,z⟩:=t.lH;obtain⟨k,u,x⟩:=aZ e1;obtain⟨fn,y,rfl⟩:=bt x;rw[Jw u]at b;obtain⟨f,B,J,C⟩:=m k fn y;exact⟨k,.ref f,.ref f,rfl,cZ.mp b,B,rfl,z _ o F1 r (Gr.refl _) (tW.mpr ⟨f,rfl,C⟩)⟩
def T9(X:Cx)(a:List (Str×Nat))(call:Str->p8):Prop:=∀x n,a.lookup x=some n->∃k f b c,FnOk X.prog X.w X.K X.mg X.base (jn X.prog X.w) k f b c (Ju X.K n (call x))/\dW k X.A/\X.mg x=some (.ref f)/\W.keepIn X.K (.ref f)=true/\gZ X.K b c []
def fnP:PV->Option Str | .fn x=>some x | _=>none
def MK{p:PV}(h:fnP p=some i):p=.fn i:=by
 cases p<;>first | (cases h;rfl) | cases h
def BZ(a:List (Str×Nat))(call:Str->p8)(ff:Gx PV)(ts:Gx (List PV)):Gx PV:=bnd ff λq=>bnd (lH ((fnP q).bind λx=>(a.lookup x).map λn=>(x,n))) λx=>T8 x.2 (call x.1) ts
def zA(v k:Expr)(sp:Pos)(args:List Expr)(pos:Pos)(a:Env):eval (.Call (.Subscript v k sp) args [] pos) a=(do callWith pos (<-eval (.Subscript v k sp) a) [] (backTo pos (starEach args a)) (backToKw pos (keywordEach [] a))):=rfl
def RK{call:Str->p8}(B:T9 X fns call)(C:∀x a,W.nsIn X.K mainGlobals x=some (some (.ref a))->X.mg x=some (.ref a))(D:PE X (.Subscript v k sp) (tE X aa ab ff))(E:PA X (e::es) (tA X aa ab ts))
  (he:starEach (e::es) X.env=(false,eval e X.env)::starEach es X.env) (J:(backTo pos (starEach es X.env)).any (·.1)=false):PE X (.Call (.Subscript v k sp) (e::es) [] pos) (tE X aa ab (BZ fns call ff ts)):=by
 rintro o s σ H Q I ⟨F,st,R,h⟩
 rw[zA];refine ag (thn (D o s σ H (λv d=>∃F1 c q,Rep X.K aa ab F1 c σ d/\bZ X.K F1 q v/\Tx X aa ab (bZ X.K) F1 c (bnd (lH ((fnP q).bind λx=>(fns.lookup x).map λn=>(x,n))) λx=>T8 x.2 (call x.1) ts) σ Q) I
  ⟨F,st,R,h.bnd λq v F1 c d g g1 f i=>⟨F1,c,q,g,f,i⟩⟩) λu s1 ⟨x,d,L,M,F1,c,q,g,f,i⟩=>?_)
 obtain⟨⟨y,n⟩,e1,z⟩:=At.lH (At.bnd i);obtain⟨y',N,Y⟩:=aZ e1;obtain⟨n',Z,t⟩:=bt Y;simp only[pM]at t;obtain⟨rfl,rfl⟩:=t;rw[MK N]at f;obtain⟨a,rfl,O1⟩:=tW.mp f;obtain⟨j,f',fd,ps,G,hr,m1,m2,m3⟩:=B _ _ Z;have:=cD ((C _ a O1).symm.trans m1);cases this;cases M;exact W.callWith_K I.ok.mod.kin m2 (thn (E pos o s1 σ d (λl m=>∃F2 b as,Rep X.K aa ab F2 b σ m/\aG X.K F2 as l/\Tx X aa ab (bZ X.K) F2 b (qa _ _ as) σ Q) L
  ⟨F1,c,g,Tx.bnd z λas l F2 b m R2 g2 b2 h2=>⟨F2,b,as,R2,b2,h2⟩⟩) (by rintro us s2 ⟨l,m,w,r,F2,b,as,R2,b2,z⟩;exact⟨w.tj,abf G hr m3 _ _ _ _ _ _ _ _ _ _ _ _ w R2 b2 r z⟩)) he J
noncomputable def He(f:Str):List Str->List PV->Option PV
 | g::ns,p::a=>if g=f then some p else He f ns a
 | _,_=>none
def W7(f:Str)(fe:Gx PV):Gx PV:=bnd fe λp=>hp λh=>match cS h p with
 | some (.qu _ ns,a)=>He f ns a
 | _=>none
theorem B0{K:W.Frag}:∀{fs:List (Str×V)} {ps:List PV} {p:PV},He f (fs.map (·.1)) ps=some p->aG K F ps (fs.map (·.2))->f∈fs.map (·.1)/\∃v,fs.lookup f=some v/\bZ K F p v
 | [],_,_,h,_=>by cases h
 | (g,v)::r,[],_,h,_=>by cases h
 | (g,v)::r,q::ps,p,h,b=>by
  obtain⟨k,w,e,l,b2⟩:=b.cG;cases e;have h:(if g=f then some q else He f (r.map (·.1)) ps)=some p:=h
  by_cases a:g=f
  ·grind
  ·rw[if_neg a]at h;obtain⟨c,d,m,i⟩:=B0 h b2;have j:(f==g)=false:=by grind
   exact⟨aK _ c,d,by grind,i⟩
def abn(he:PE X e (tE X aa ab fe))(c:attributeBase e f X.env (eval e X.env)=eval e X.env):PE X (.Attribute e f pos) (tE X aa ab (W7 f fe)):=(VR he c).imp λσ H Q ⟨F,st,R,h⟩=>⟨F,st,R,h.bnd λq v F1 E d b I g i=>by
 obtain⟨o,e,z⟩:=i.hp;split at e
 ·rename_i C J L hd;obtain⟨a,M,rfl,⟨j,k,fs,N,l,m,r,t,u⟩,x⟩:=b.at hd g;subst t u;obtain⟨y,w,B,D⟩:=B0 e x;exact⟨a,j,k,fs,w,rfl,r,l,m f y,B,z _ d F1 b (Gr.refl _) D⟩
 ·cases e⟩
noncomputable def rh(f:Str)(q:PV):List Str->List PV->List Str×List PV
 | g::ns,p::a=>if g=f then(g::ns,q::a)else(g::(rh f q ns a).1,p::(rh f q ns a).2)
 | _,_=>([f],[q])
theorem Hf{K:W.Frag}(d:bZ K F q v):∀{fs:List (Str×V)} {ps:List PV},aG K F ps (fs.map (·.2))->(jj f v fs).map (·.1)=(rh f q (fs.map (·.1)) ps).1/\aG K F (rh f q (fs.map (·.1)) ps).2 ((jj f v fs).map (·.2))/\∀g∈(rh f q (fs.map (·.1)) ps).1,g=f\/g∈fs.map (·.1)
 | [],ps,b=>by
  have e:=mz b.length;subst e;exact⟨rfl,.cons d .nil,λg a=>.inl (by simpa[rh]using a)⟩
 | (g,w)::r,[],b=>by have:=b.length;simp at this
 | (g,w)::r,p::ps,b=>by
  obtain⟨l,m,e,i,b2⟩:=b.cG;cases e;obtain⟨j,k,o⟩:=Hf d b2;by_cases a:g=f
  ·subst a;have e1:jj g v ((g,w)::r)=(g,v)::r:=if_pos rfl;have h:rh g q (((g,w)::r).map (·.1)) (p::ps)=(g::r.map (·.1),q::ps):=if_pos rfl;rw[e1,h];exact⟨rfl,.cons d b2,λy c=>.inr c⟩
  ·have e1:jj f v ((g,w)::r)=(g,w)::jj f v r:=if_neg a;have h:rh f q (((g,w)::r).map (·.1)) (p::ps)=(g::(rh f q (r.map (·.1)) ps).1,p::(rh f q (r.map (·.1)) ps).2):=if_neg a;rw[e1,h];refine⟨by rw[aO,j],.cons i k,λy c=>?_⟩
   rcases aU.mp c with rfl | c
   ·grind
   ·grind
def ML(K:W.Frag)(b:List Str)(a:List Str):Prop:=∀C,b.contains C=true->∃c,ClsAt K C (.ref c)/\Ir K c/\∀f,a.contains f=true->jI K c f
def afv(b a:List Str)(f:Str)(i g:PV):cL->Option cL:=λd=>(rf d.h i).bind λc=>match c.2.k with
 | .qu C ns=>if(b.contains C&&a.contains f&&decide (ns.length<900))=true then some ⟨d.ρ,d.h.set c.1 ⟨.qu C (rh f g ns c.2.ps).1,(rh f g ns c.2.ps).2⟩⟩else none
 | _=>none
def W8(b a:List Str)(f:Str)(c d:Gx PV):Gx dM:=bnd c λv=>bnd d λo=>stp (afv b a f o v)
def abo{d b:List Str}(hc:ML X.K d b)(ho:PE X o (tE X aa ab B))(he:PE X e (tE X aa ab E))(I:swapsWith e (some (.Attribute o f J)) pos.line X.env=pure false):PS X (.Assign [.Attribute o f J] e pos) (tS X aa ab (W8 d b f E B)) :=
 (VS ho he I).imp λD σ H ⟨F,st,R,h⟩=>⟨F,st,R,h.bnd λpv v F1 L H1 M g1 N Q=>⟨F1,L,M,Q.bnd λpo o F2 Y H2 R2 Z b2 h2=>by
  obtain⟨aD,e,z⟩:=h2.stp;obtain⟨⟨n,c⟩,e1,m⟩:=aZ e;clear e;have e:=m;clear m;obtain⟨rfl,q,r⟩:=jo e1;obtain⟨a,t,rfl⟩:=dQ.mp b2;obtain⟨_,vs,i,g3⟩:=R2.c.cell n c a q t r;split at e
  ·rename_i C ns hk;have hk:=hk;obtain⟨j,rfl⟩:=aR e;rw[aY,aY]at j;rw[hk]at i;obtain⟨k,u,fs,w,x,k3,k4,rfl,rfl⟩:=i;obtain⟨Cb,m1,m2,y⟩:=hc C j.1.1;have eC:k=Cb:=by
    have:=w.symm.trans m1;cases this;rfl
   subst eC;have eQ:=dw j.2;rw[ao]at eQ;obtain⟨p1,p2,p3⟩:=Hf (N.mono Z) g3;refine⟨a,k,u,fs,rfl,k4,x,y f j.1.2,(Nat.le_add_left_of_le ‹_›),z F2 σ _ (R2.put q r t ⟨k,u,_,w,x,λg l=>?_,aF,p1,rfl⟩ p2) (Gr.refl _)⟩
   rcases p3 g l with rfl | l
   ·exact y _ j.1.2
   ·exact k3 g l
  ·cases e⟩⟩
def afw(st:cL):Rs PV×List aw->Option (Rs PV×cL)
 | (.ok .bM,h)=>(wY h 4 (.ref 0)).map λq=>(.ok q,st)
 | _=>none
def mkP(C:Str)(n:Nat)(g:p8)(ts:Gx (List PV)):Gx PV:=bnd ts λas a=>if as.length+1=n/\(a.h.isEmpty || ai as)=true then(g (.ref 0::as) [⟨.qu C [],[]⟩]).bind (afw a)else none
section
variable {C:Str} {Ca f:Addr} {fd:FuncData} {ps:List Str} {g:p8} {k n:Nat}
def RL(L:ClsAt X.K C (.ref Ca))(c:Ir X.K Ca)(h:tE X aa ab (mkP C n g ts) σ H Q):Tu Ca (Ju X.K n g) [] E0 (tA X aa ab ts) σ H Q:=by
 obtain⟨F,M,R,h⟩:=h;refine⟨F,M,R,h.bnd λas N F1 bz l t g1 Y Z y j E u w=>?_⟩
 obtain⟨q,e1,x⟩:=Z;obtain⟨⟨hl,hn⟩,e1⟩:=b9 e1;obtain⟨r,I,B⟩:=aZ e1;have i:cC l j (.own y) y=none:=by rw[aJ w.symm];exact E
 have up:cV l (cC l j (.own y)):=fw u;have b2:aG X.K ⟨F1.F,[y]⟩ (.ref 0::as) (.ref y::N):=.cons (dQ.mpr ⟨y,rfl,rfl⟩) (wZ t hn Y [y]);have C0:lG X.K (cC l j (.own y)) ⟨F1.F,[y]⟩ ⟨F1.F,[y]⟩ [⟨.qu C [],[]⟩] (cC (cC l j (.own y)) y (.qu Ca j [])):=by
  refine⟨λb o e=>fw i _ _ (up _ _ (t.sub _ _ e)),fw i,Gr.refl _,λa o e=>.inl e,λm a e=>?_,rfl,by simp,λm d a e1 x I=>?_⟩
  ·cases m with
   | zero=>cases e;exact⟨i,_,aF⟩
   | succ m=>simp at e
  ·cases m with
   | zero=>cases e1;cases x;exact⟨t.sub.free E,[],⟨Ca,j,[],L,c,(λ_ z=>nomatch z),aF,rfl,rfl⟩,.nil⟩
   | succ m=>simp at e1
 match r,B with
 | (.ok .bM,h'),B =>
  obtain⟨p,e5,rfl⟩:=bt B;refine⟨_,_,_,.ref 0::as,_,h',C0,λb o e=>?_,by grind,by grind,I,λv F' H' D b'=>⟨dA.mp b',?_⟩⟩
  ·by_cases J:b=y
   ·subst J;exact .inr ⟨0,rfl⟩
   ·rw[aJ J]at e;exact .inl e
  ·obtain⟨R3,g3⟩:=t.back up D;exact x _ H' _ R3 g3 (D.wY F1.μ _ _ _ _ e5 (dQ.mpr ⟨y,D.base.m 0 y rfl,rfl⟩))
end
end
def abp(X:Cx)(a:Hp)(b:Fz)(d:Addr)(ω:PV->Gx PV):Prop:=∀(H:Hp) (F:Fz) (st:cL) (σ:St) (c:List (Addr×Obj)) (s:Shared) (Q:VK) (p:PV) (u:Value) (v:V),Inv X c σ H s->Rep X.K a b F st σ H->bZ X.K F p v->RelV v u->Tx X a b (bZ X.K) F st (ω p) σ Q ->
 wpAny (model X.prog X.w) X.A (call (.ref d) [u]) (EP X c σ Q) X.xe s
structure B2 (X:Cx) (aa:Hp) (ab:Fz) (n:Nat) (ω:PV->Gx PV):Prop where
 ex:∃fa o u abq,ab.μ[n]?=some fa/\X.aa fa=some (.qw o u)/\o.data=.func abq/\abp X aa ab fa ω
def abr(n:Nat):PV->Option Unit
 | .ref m=>if m=n then some ()else none
 | _=>none
def MM(i n:Nat)(ω:PV->Gx PV)(fe:Gx PV):Gx PV:=bnd (rd i) λq=>bnd (lH (abr n q)) λ_=>bnd fe ω
section
variable {X:Cx} {aa:Hp} {ab:Fz} {e:Expr} {fe:Gx PV} {pos p:Pos} {i n:Nat} {ω:PV->Gx PV} {y:Str}
def abt(L:B2 X aa ab n ω)(hy:PE X (.Name y p) (Pn i))(B:PE X e (tE X aa ab fe))(he:starEach [e] X.env=(false,eval e X.env)::starEach [] X.env):PE X (.Call (.Name y p) [e] [] pos) (tE X aa ab (MM i n ω fe)):=by
 rintro g s σ H Q I ⟨F,st,R,h⟩
 obtain⟨d,o,u,abq,hm,C,D,L⟩:=L;refine kJ (thn (TU i hy g s σ H (λv j=>v=.ref d/\∃F1 f,Rep X.K aa ab F1 f σ j/\Tx X aa ab (bZ X.K) F1 f (bnd fe ω) σ Q) I ⟨F,st,R,h.bnd λq v F1 f j l g1 b1 E=>?_⟩) λv Y M=>?_)
 ·obtain⟨_,e1,z⟩:=At.lH (At.bnd E);cases q with
  | ref m =>
   obtain⟨rfl,_⟩:=aR e1;obtain⟨a,B,rfl⟩:=dQ.mp b1;have:=l.c.base.m _ _ hm;rw[B]at this;cases this;exact⟨rfl,F1,f,l,z⟩
  | _=>cases e1
 ·obtain⟨z,j,I1,rx,rfl,F1,f,l,E⟩:=M;cases rx;have hP:∀{Z:St} {H':Hp} {N:Shared},Inv X g Z H' N->N.heap.get? d=some o:=λ{Z H' N} J=>(J.hok d _ (J.base.frzs d o u C)).1
  have hk:∀h:Heap,h.get? d=some o->∃k,(k=Keeper.frame\/k=Keeper.machine\/k=Keeper.boundFrame)/\W.Looks (model X.prog X.w) h (keeperOf (.ref d)) k:=λh ho=>by
   obtain⟨c1,c2,c3,c4⟩:=o;cases D;exact⟨.frame,.inl rfl,(W.Looks.ld ho).andThen .now⟩
  have Ua:wpAny (model X.prog X.w) X.A (spliced (backTo pos (starEach [e] X.env))) (λus t=>t.heap.get? d=some o/\wpAny (model X.prog X.w) X.A (call (.ref d) ([]++us)) (EP X g σ Q) X.xe t) X.xe Y :=
   thn ((jN B tF he) pos g Y σ j (λvs x=>∃v F2 b p,vs=[v]/\Rep X.K aa ab F2 b σ x/\bZ X.K F2 p v/\Tx X aa ab (bZ X.K) F2 b (ω p) σ Q) I1 ⟨F1,f,l,E.bnd λp v F2 b x R2 g2 b2 T=>⟨v,F2,b,p,rfl,R2,b2,T⟩⟩)
    λus t M=>by
     obtain⟨vs,x,I2,r,v,F2,b,p,rfl,R2,b2,T⟩:=M;obtain⟨u2,rfl,ru⟩:=j9 r;exact⟨hP I2,L x F2 b σ g t Q p u2 v I2 R2 b2 ru T⟩
  rw[he]at Ua ⊢;exact W.callWith_of rfl hk (PySem.Calls.evalArgs_plain Ua)
end
noncomputable def afz(a:List (Option PV)):Rs PV×cL->Option (Rs PV×cL)
 | (.ok p,st)=>some (.ok p,⟨a,st.h⟩)
 | _=>none
def RM(fb:Gx PV)(a:List (Option PV)):PV->Gx PV:=λp b=>(fb ⟨some p::a,b.h⟩).bind (afz b.ρ)
def W9(j:X.ex=[])(hL:LZ X.aa d qual m body scope cl)(hC:mW X.s₀.heap X.aa scope cl N J)(hF:Lc X.K uo a J)(B:Gr uo D)(M:dW (k+1) X.A)
  (hb:∀(T f Y u:Value),bindArgs (W.kla_fn "<lambda>" qual m body scope cl T f Y) ⟨[u],[]⟩=pure [(x,u)]) (hk:scope.kind=.function) (Wd:scope.isCoroutine=false) (We:scope.isGenerator=false) (hx:scope.names.lookup x=some .local) (nc:∀y∈scope.names,y.2≠.cell)
  (hbody:∀(f:Value) (s:Shared) (H Z:Hp) (D:Fz),dW k (X.A.deeper (W.envX qual scope s.heap.objs.size d f cl))->PE (TM (jn X.prog X.w) X.prog X.w X.K X.mg X.base (x::N) qual scope d f cl X.A X.stack s H E0) body (tE (TM (jn X.prog X.w) X.prog X.w X.K X.mg X.base (x::N) qual scope d f cl X.A X.stack s H E0) Z D fb)):abp X Z D d (RM fb a):=by
 rintro H F st σ ae s Q p u v I R b ru ⟨q,e1,e2⟩
 obtain⟨r,e3,E⟩:=aZ e1;obtain⟨o,u',T,f,Y,c,oc,uc,vs,t,k1,k2,rfl,k3,k4,k5⟩:=hL;have g1:=(I.hok d _ (I.base.frzs d o u' k1)).1;have g2:=(I.hok c _ (I.base.frzs c oc uc k3)).1;have C:=hC.un (by have:=I.base;rw[j]at this;exact this)
 match r,E with
 | (.ok p',aD),E =>
  cases E;have L:Lc X.K F (some p::a) (some v::J):=⟨λi y e=>by
   cases i with
   | zero=>cases e;exact⟨v,rfl,b⟩
   | succ i =>
    obtain⟨z,h1,h2⟩:=hF.av i y (by grind)
    exact⟨z,by grind,h2.mono (B.trans R.c.base)⟩,by simp[hF.len]⟩
  obtain⟨C0,_⟩:=R.c.enter;refine sX (kP (QJ g1 k2 ⟨c,oc,vs,t,rfl,g2,k4,k5⟩ M I.PZ (hb _ _ _ _) ru hk Wd We hx nc C ⟨_,hbody (.ref c) s H _ F (M.deeper _),F,⟨some p::a,st.h⟩,⟨C0,L⟩,_,e3,λv' H' F' R' g' b'=>e2 v' H' F' ⟨R.c.leave R'.c,R.l.mono g'⟩ g' b'⟩) λr s' g=>?_)
  cases r with
  | error e=>exact Bz ae σ H s e s' I g
  | ok fl =>
   cases fl with
   | ret u=>exact I.after g
   | next=>exact False.elim g
   | brk=>exact False.elim g
   | cont=>exact False.elim g
structure uq (X:Cx) (x:Str) (N:List Str) (link:List (Option Nat)) (scope:Scope):Prop where
 kind:scope.kind=.function
 co:scope.isCoroutine=false
 gen:scope.isGenerator=false
 par:scope.names.lookup x=some .local
 cell:∀y∈scope.names,y.2≠.cell
 free:∀y∈scope.names,y.2=.free->(X.env.kindOf y.1=some .cell\/X.env.kindOf y.1=some .free)
 len:link.length=N.length
 link:∀(i j:Nat) (y:Str),link[i]?=some (some j)->N[i]?=some y->X.N[j]?=some y/\scope.names.lookup y=some .free
def RN(I:Inv X M σ H s)(S:uq X x N link scope):mW s.heap H scope (k9 X.env scope.names []) N (g8 link σ) where
 inj:=λy z c e a=>I.ok.inj y z c (cw e) (cw a)
 has:=λy B=>by
  have b:=eY B;obtain⟨c,hc⟩:=I.ok.has y (S.free _ b rfl);obtain⟨f,g⟩:=lb scope.names [] b ⟨c,hc⟩;cases z:(k9 X.env scope.names []).lookup y with
  | some p=>exact⟨p,rfl⟩
  | none=>exact absurd g (by intro k;have:=List.lookup_eq_none_iff.mp z (y,f) k;simp at this)
 cell:=λy c h=>I.cell y c (cw h)
 free:=λy c h=>I.freeC y c (cw h)
 val:=λi y v e a=>by
  unfold L2.U.g8 at a;rw[bP]at a;cases z:link[i]? with
  | none=>rw[z]at a;cases a
  | some o =>
   rw[z]at a;cases o with
   | none=>cases a
   | some j =>
    have a:(σ[j]?).join=some v:=cD a;obtain⟨C,r⟩:=S.link i j y z e;have b:=eY r;obtain⟨m,_,D⟩:=I.loc;have d:=S.free _ b rfl;obtain⟨u,E,J⟩:=D j y v C (by
     cases w:σ[j]? with
     | none=>rw[w]at a;cases a
     | some q=>rw[w]at a;exact dq some a) (by
     rcases d with q | q
     ·exact .inr (.inl q)
     ·exact .inr (.inr q))
    rcases J with⟨q,_⟩ | ⟨_,c,hc,L⟩
    ·rcases d with l | l<;>rw[q]at l<;>cases l
    ·obtain⟨f,g⟩:=lb scope.names [] b ⟨c,hc⟩;cases t:(k9 X.env scope.names []).lookup y with
     | none=>exact absurd g (by intro k;have:=List.lookup_eq_none_iff.mp t (y,f) k;simp at this)
     | some p =>
      have:=cw t;rw[hc]at this;cases this;exact⟨c,u,r,rfl,L,E⟩
 len:=by unfold L2.U.g8;rw[ao];exact S.len
structure Ub (X:Cx):Prop where
 ex:∃x c T,x∈dG/\W.tabIn X.K x=some (c,T)/\W.codeHdIn X.K c T=true/\X.env.code=.ref c/\X.env.qual++"<lambda>"=A7 x
 blt:Bx X.mg X.base
def oneArg(x:Str)(a:Pos):Arguments:={posonlyargs:=[],args:=[{arg:=x,annotation:=none,pos:=a}],vararg:=none,kwonlyargs:=[],kw_defaults:=[],kwarg:=none,defaults:=[]}
def Jx(a b c u:Value):bindArgs (W.kla_fn "<lambda>" qual (oneArg x ap) body scope cl a b c) ⟨[u],[]⟩=pure [(x,u)]:=by
 have d:seqItems? Value.none=pure none:=rfl;unfold bindArgs;simp only[oneArg,d,D6];simp[List.lookup]
def ox:aw:=⟨.aq,[]⟩
def abv(b:(PV->Gx PV)->Nat->p8)(fb:Gx PV)(link:List (Option Nat)):PV->Gx PV:=λp a =>
 (b (RM fb (bX link a.ρ)) a.h.length [p,.ref a.h.length] (a.h++[ox])).map λr=>(abe r.1,⟨a.ρ,r.2⟩)
def Jy(a:(PV->Gx PV)->Nat->p8)(fe fb:Gx PV)(link:List (Option Nat)):Gx PV:=bnd fe (abv a fb link)
section
variable {K:W.Frag} {aa H H':Hp} {ab F:Fz} {h:List aw}
def lG.afB(C:lG K aa ab F h H)(hp:F.F p=none)(k:aa p=none)(l:∃o,H p=some o)(m:p∉F.μ):lG K aa ab ⟨F.F,F.μ++[p]⟩ (h++[ox]) H/\Gr F ⟨F.F,F.μ++[p]⟩/\(F.μ++[p])[h.length]?=some p:=by
 have g:Gr F ⟨F.F,F.μ++[p]⟩:=⟨cV.refl _,λn a q=>by
  grind⟩
 have b:∀n a,(F.μ++[p])[n]?=some a->F.μ[n]?=some a\/n=F.μ.length/\a=p:=λn a q=>by
  grind
 refine⟨⟨C.sub,C.keep,C.base.trans g,C.fresh,λn a q=>?_,by simp[C.hl],?_,λn d a hd e hk=>?_⟩,g,by rw[C.hl];simp⟩
 ·rcases b n a q with z | ⟨_,rfl⟩
  ·exact C.new n a z
  ·grind
 ·rw[pE];exact⟨C.nd,by grind⟩
 ·rcases b n a e with z | ⟨rfl,rfl⟩
  ·rw[ij (by rw[C.hl];exact(bW.mp z).1)]at hd
   obtain⟨f,ws,i,j⟩:=C.cell n d a hd z hk;exact⟨f,ws,i,j.mono g⟩
  ·rw[<-C.hl,mB (au _),Nat.sub_self]at hd;cases hd;cases hk
end
section
variable {X:Cx} {aa:Hp} {ab:Fz} {e body:Expr} {fe fb:Gx PV} {scope:Scope} {x:Str} {ap lp p1 pos:Pos} {N Ns:List Str} {link:List (Option Nat)} {fs:Addr} {Uc:FuncData} {k:Nat} {st:Stmt} {pr:List Str} {rb:(PV->Gx PV)->Nat->Gx dM}
def MN(D:Eg X.K "spread" "spread" st fs Uc)(mS:X.mg "spread"=some (.ref fs))(bS:gZ X.K Uc pr [])(scS:dP Ns pr (az st))(hpr:pr.length=2)(L:Ub X)(hg:Gl X "spread")(hr:dW (k+2) X.A)(he:PE X e (tE X aa ab fe))(nJ:starEach [e,.Lambda (oneArg x ap) body scope lp] X.env=(false,eval e X.env)::starEach [.Lambda (oneArg x ap) body scope lp] X.env)(S:uq X x N link scope)
  (MO:∀(j:Value) (A:Around) (aB:List Env) (s:Shared) (H:Hp) (E:XK) (aa:Hp) (ab:Fz) (n:Nat) (ω:PV->Gx PV),dW (k+1) (A.deeper (envOfC "spread" (az st) s.heap.objs.size fs j))->B2 (fP (jn X.prog X.w) X.prog X.w X.K X.mg X.base Ns "spread" (az st) fs j A aB s H E) aa ab n ω ->
   PSs (fP (jn X.prog X.w) X.prog X.w X.K X.mg X.base Ns "spread" (az st) fs j A aB s H E) (dz st) (tS (fP (jn X.prog X.w) X.prog X.w X.K X.mg X.base Ns "spread" (az st) fs j A aB s H E) aa ab (rb ω n)))
  (hbody:∀(qual:Str) (d:Addr) (j:Value) (cl:List (Str×Addr)) (A:Around) (stack:List Env) (s:Shared) (H zB:Hp) (uo:Fz),dW k (A.deeper (W.envX qual scope s.heap.objs.size d j cl)) ->
   PE (TM (jn X.prog X.w) X.prog X.w X.K X.mg X.base (x::N) qual scope d j cl A stack s H E0) body (tE (TM (jn X.prog X.w) X.prog X.w X.K X.mg X.base (x::N) qual scope d j cl A stack s H E0) zB uo fb)) :
  PE X (.Call (.Name "spread" p1) [e,.Lambda (oneArg x ap) body scope lp] [] pos) (tE X aa ab (Jy (λω n=>er (rb ω n) Ns.length) fe fb link)):=by
 rintro ae s σ H Q I ⟨F,st0,R,h⟩
 obtain⟨⟨xn,c,T,l1,l2,l3,l4,l5⟩,hB⟩:=L;have hcl:=uh λy hy hy2=>I.ok.has y.1 (S.free y hy hy2)
 refine kJ (ld_glob I hg mS ?_ rfl);refine W.callWith_K I.ok.mod.kin D.kp (thn ((jN he (jN (Wf l1 l2 l3 l4 l5 hB rfl hcl) tF rfl) nJ) pos ae s σ H
  (λvs i=>∃v d F1 bz p M,vs=[v,.ref d]/\Rep X.K aa ab F1 bz σ M/\bZ X.K F1 p v/\Tx X aa ab (bZ X.K) F1 bz (abv (λω n=>er (rb ω n) Ns.length) fb link p) σ Q/\M d=none/\cV M i/\(∀b o,i b=some o->M b=some o\/M b=none)/\LZ i d (A7 xn) (oneArg x ap) body scope (k9 X.env scope.names [])) I
  ⟨F,st0,R,h.bnd λp v F1 bz M C g1 b1 h1 d i hn sm fr hL=>⟨v,d,F1,bz,p,M,rfl,C,b1,h1,hn,sm,fr,hL⟩⟩) λus J z9=>?_) nJ rfl
 obtain⟨vs,i,I2,r,v,d,F1,bz,p,M,rfl,C,b1,z,hn,sm,fr,hL⟩:=z9;refine⟨I2.tj,?_⟩;obtain⟨q,e1,e2⟩:=z;obtain⟨⟨rs,h'⟩,e3,e4⟩:=bt e1;subst e4;obtain⟨o,u,pm,ajG,Kr,c',oc,uc,yT,t,k1,k2,k3⟩:=id hL;have C1:=C.c.after sm (cV.refl _) rfl (C.sub.trans sm) λ_ _ e=>.inl e
 have nfa:d∉F1.μ:=λhm=>by
  obtain⟨n,ZH⟩:=pz.mp hm;obtain⟨_,o',pe⟩:=C.c.new n d ZH;rw[hn]at pe;cases pe
 obtain⟨C2,g2,hm⟩:=C1.afB (C.sub.free hn) (C.c.keep.free hn) ⟨_,k1⟩ nfa;obtain⟨C3,full⟩:=C2.enter;have b2:aG X.K ⟨F1.F,F1.μ++[d]⟩ [p,.ref bz.h.length] [v,.ref d]:=.cons (b1.mono g2) (.cons (dQ.mpr ⟨d,hm,rfl⟩) .nil);obtain⟨q2,e5,e6⟩:=aZ e3;have run:∀Q' Y,WY X.K (rg i (F1.μ++[d])) ⟨F1.F,F1.μ++[d]⟩ h' Q' Y rs->codeAny (model X.prog X.w) X.A (.call (.ref fs) ⟨us,[]⟩) (CR (jn X.prog X.w) X.stack X.prog X.w i J Q' Y) J:=λQ' Y res=>by
  refine aat D scS hr I2.PZ (bS J us I2.tj (by rw[eG,<-r.length,hpr];rfl)) (by rw[eG];exact r) (by rw[hpr];rfl) λj=>⟨_,MO j X.A X.stack J i Y _ _ bz.h.length _ (hr.deeper _) ⟨d,o,u,_,hm,k1,k2,?_⟩,_,⟨gY Ns.length [p,.ref bz.h.length],_⟩,⟨C3,BX b2⟩,q2,e5,?_⟩
  ·exact W9 rfl hL (RN I2 S) (C.l.g8 link) g2 (hr.deeper _) Jx S.kind S.co S.gen S.par S.cell λj s H zB uo O2=>hbody _ _ _ _ _ _ _ _ _ _ O2
  ·rcases q2 with⟨f | ⟨m,c⟩,st⟩
   ·cases f with
    | rt=>cases e6;exact λv B H' C' g b'=>res v B H' C' b'
    | nx=>cases e6;exact λB bL H' R g=>res .bM B H' R.c (dA.mpr rfl)
    | _=>cases e6
   ·cases e6;cases m with
    | true=>exact λB bL H' ae J h1 a Z vs R sf I hc hm=>Ha I hm (Hb full R.c) (res Z B H' R.c hc)
    | false=>exact λbL ae M J e s' I h=>BW I h (by rintro Z i ⟨hc,B,R,sf⟩;exact⟨Hb full R.c,res Z B i R.c hc⟩)
 have done:∀Q' Y,(∀e s',jn X.prog X.w X.stack i J Y e s'->X.xe e s')->WY X.K (rg i (F1.μ++[d])) ⟨F1.F,F1.μ++[d]⟩ h' Q' Y rs->wpAny (model X.prog X.w) X.A (call (.ref fs) us) (EP X ae σ Q') X.xe J:=λQ' Y hx res=>by
  refine sX (kP (run Q' Y res) λr s' vq=>?_)
  cases r with
  | error e=>exact hx e s' vq
  | ok fl =>
   cases fl with
   | ret u=>exact I2.after vq
   | next=>exact False.elim vq
   | brk=>exact False.elim vq
   | cont=>exact False.elim vq
 cases rs with
 | ok p'=>exact done Q E0 (λe s' hx=>Bz ae σ i J e s' I2 hx) λv B H' D' b'=>e2 v H' B ⟨C2.leave D',C.l.mono (g2.trans D'.base)⟩ (g2.trans D'.base) b'
 | ex m c=>exact thn (done (λ_ _=>False) _ (λe s' hx=>e2 σ ae i J e s' I2 hx) λZ B H' D' hc=>⟨hc,B,⟨C2.leave D',C.l.mono (g2.trans D'.base)⟩,g2.trans D'.base⟩) (by rintro v s3 ⟨_,_,_,_,z⟩;exact z.elim)
end
end L2.U
namespace PySem
open Sem (wp)
def rj:entryFor table "set.__iter__"=some Builtin.«frozenset.__iter__» := entryFor_alias (id':="frozenset.__iter__") (by kernel_rfl) rfl (by decide +kernel) (by kernel_rfl)
def eU:Slot "set_iterator" "__next__" "set_iterator.__next__" :=
 .of (owner:="set_iterator") (n:="__next__") (by rw[Eb,DR];kernel_rfl) (by decide +kernel) (by decide +kernel) (by decide +kernel)
  (by first | exact .inl (by decide +kernel) | exact .inr (by decide +kernel)) (by rw[isSubtype_type];kernel_rfl)
def me:entryFor table "set_iterator.__next__"=some Builtin.«set_iterator.__next__» := entryFor_of_tree (by kernel_rfl)
def oy(a:Value):argsOk "set_iterator.__next__" ⟨[a],[]⟩:=by unfold argsOk;kernel_rfl
def oz:Slot "set_iterator" "__iter__" "set_iterator.__iter__" :=
 .of (owner:="set_iterator") (n:="__iter__") (by rw[Eb,DR];kernel_rfl) (by decide +kernel) (by decide +kernel) (by decide +kernel)
  (by first | exact .inl (by decide +kernel) | exact .inr (by decide +kernel)) (by rw[isSubtype_type];kernel_rfl)
def vz:entryFor table "set_iterator.__iter__"=some Builtin.«dict_keyiterator.__iter__» := entryFor_alias (id':="dict_keyiterator.__iter__") (by kernel_rfl) rfl (by decide +kernel) (by kernel_rfl)
def zC(a:Value):argsOk "set_iterator.__iter__" ⟨[a],[]⟩:=by unfold argsOk;kernel_rfl
def eu(a:Array (Int×Value))(b:Nat)(t:SetTable):Obj:={cls:=.type "set",dict:=none,data:=.set a b t,slots:=#[]}
noncomputable abbrev BT(w:World):Bool:=w.params.followText "set-order"
section
variable {prog:Program} {w:World} {A:Around} {E:Value->Shared->Prop} {s:Shared} {a:Addr} {es:Array (Int×Value)} {ep:Nat} {t:SetTable}
def m6(h:Q (BT w) s):wpAny (model prog w) A setsByText Q E s:=by
 unfold setsByText;exact ag (D7 (aj h))
def zD(hS:s.heap.get? a=some (eu es ep t))(b:t.fits es.size=true)(c:BT w=true\/t.plain=true)(h:Q false s):wpAny (model prog w) A (setDrawn a) Q E s:=by
 unfold setDrawn;refine ag (kM hS rfl b ?_);refine ag (m6 ?_);refine aj ?_;have e:(!BT w&&(!t.plain&&decide (es.size>1)))=false:=by
  grind
 show Q (!BT w&&(!t.plain&&decide (es.size>1))) s;rw[e];exact h
def E5(hS:s.heap.get? a=some (eu es ep t))(b:t.fits es.size=true)(d:BT w=true\/t.plain=true)
  (e:Q (.ref s.heap.objs.size) {s with heap:=s.heap.push {cls:=.type "set_iterator",data:=.fields #[.int 0 0,.int 0 0,.ref a,.int es.size 0,.int ep 0]}}):wpAny (model prog w) A (pyIter (.ref a)) Q E s:=by
 have c:s.TypeIs (.ref a) "set":=⟨_,hS,rfl⟩;refine DX c F.slot_set_iter (fX F.slot_set_iter c rj ?_ (F.args_set_iter_1 _));unfold Builtin.«frozenset.__iter__» Builtin.Frozenset.slot0;refine ag (ag (aj ?_));refine aj ?_;unfold Builtin.Frozenset.sizeOf setEntries;refine ag (ag (ag (kM hS rfl b (aj (aj ?_)))));refine ag (zD hS b d ?_);rw[if_neg dv];refine ag (aj ?_);refine ag (wpAny_setEpoch_of hS rfl b ?_);unfold newFields;refine ag (gy (aj ⟨_,rfl,"set_iterator",_,⟨_,cx _ rfl,rfl⟩,eU.lookup,?_⟩));simpa[rawInt]using e
end
section
variable {prog:Program} {w:World} {A:Around} {E:Value->Shared->Prop} {s:Shared} {a:Addr} {es:Array (Int×Value)} {ep:Nat} {t:SetTable}
noncomputable def Hg(t:SetTable):Nat->Nat
 | 0=>0
 | i+1=>t.place.getD i 0+1
def eX(w:World)(t:SetTable)(i:Nat):Nat:=if BT w=true then 0 else Hg t i
def m7(w:World)(a:Addr)(ep:Nat)(es:Array (Int×Value)):Array (Int×Value):=if BT w=true then pickOrder (w.params.setOrder a ep) es else es
structure gj (w:World) (a:Addr) (ep:Nat) (es:Array (Int×Value)) (t:SetTable):Prop where
 fits:t.fits es.size=true
 size:(m7 w a ep es).size=es.size
 led:BT w=false->t.led=true/\t.plain=true/\∀i,i<=es.size->SetTable.below t.place (Hg t i)=i
def gj.ok(g:gj w a ep es t):BT w=true\/t.plain=true:=by
 cases h:BT w with
 | true=>exact .inl rfl
 | false=>exact .inr (g.led h).2.1
def gj.place(g:gj w a ep es t):t.place.size=es.size:=by
 have:=g.fits;simp only[SetTable.fits,aY,bu]at this;exact this.1
def B3(hS:s.heap.get? a=some (eu es ep t))(g:gj w a ep es t)(i:Nat)(d:i<=es.size)
  (h:Q (((m7 w a ep es)[i]?).map λe=>(e.2,eX w t (i+1))) s):wpAny (model prog w) A (setNext a (eX w t i) i ep) Q E s:=by
 unfold setNext;refine ag (kM hS rfl g.fits ?_);refine ag (m6 ?_);cases b:BT w with
 | true =>
  rw[if_pos rfl];dsimp only
  rw[if_neg (by simp)]
  unfold setWalk;refine ag (ag (kM hS rfl g.fits ?_));refine ag (m6 ?_);rw[b,if_pos rfl];refine ag (D7 ?_);refine aj (aj ?_);unfold m7 eX at h;rw[b]at h;simp only[iZ]at h;unfold eX;rw[b];exact h
 | false =>
  obtain⟨f,hp,hw⟩:=g.led b;rw[if_neg dv];refine ag (aj ?_);show wpAny _ _ (if(!t.plain&&decide (es.size>1))=true then _ else _) _ _ s
  rw[hp];rw[if_neg (by simp)]
  refine ag ?_;show wpAny _ _ (if(!t.led&&!es.isEmpty)=true then _ else _) _ _ s
  rw[f,if_neg (by simp)]
  refine aj ?_;refine aj ?_;unfold m7 eX at h;rw[b]at h;simp only[jF,fF]at h;have e:SetTable.below t.place (eX w t i)=i:=by unfold eX;rw[b,if_neg dv];exact hw i d
  rw[e];have m:=g.place;by_cases j:i<es.size
  ·have c:es[i]?=some es[i]:=by simp[j]
   have k:t.place[i]?=some (t.place[i]'(by lia)):=by grind
   rw[c,k];rw[c]at h;have l:Hg t (i+1)=t.place[i]'(by lia)+1:=by
    show t.place.getD i 0+1=_;simp[show i<t.place.size by lia]
   rw[l]at h;exact h
  ·grind
end
section
variable {prog:Program} {w:World} {A:Around} {E:Value->Shared->Prop} {s:Shared} {a it:Addr} {es:Array (Int×Value)} {ep:Nat} {t:SetTable}
def fN(h:Heap)(it a:Addr)(b i n ep:Nat):Prop:=∃o,h.get? it=some o/\o.cls=.type "set_iterator"/\o.data=.fields #[.int b 0,.int i 0,.ref a,.int n 0,.int ep 0]
def fN.typeIs(x:fN s.heap it a b i n ep):s.TypeIs (.ref it) "set_iterator":=let ⟨o,ho,hc,_⟩:=x;⟨o,ho,hc⟩
def MP(c:fN s.heap it a (eX w t i) i es.size ep)(hS:s.heap.get? a=some (eu es ep t))(g:gj w a ep es t)(d:i<es.size)
  (l:∀v h',(∃e,(m7 w a ep es)[i]?=some e/\v=e.2)->fN h' it a (eX w t (i+1)) (i+1) es.size ep->Heap.SameBut it s.heap h'->Q (some v) {s with heap:=h'}):wpAny (model prog w) A (pyNext (.ref it)) Q E s:=by
 obtain⟨o,ho,hc,hd⟩:=id c;unfold pyNext;refine ag (sQ (jC c.typeIs eU (fX eU c.typeIs me ?_ (oy _))));unfold Builtin.«set_iterator.__next__»;refine ag (aj ?_);refine ag (wpAny_fieldsOf ho hd ?_);dsimp only
 unfold setEntries;refine ag (ag (kM hS rfl g.fits (aj ?_)));dsimp only
 rw[if_neg (by simp)]
 have j:(m7 w a ep es)[i]?=some ((m7 w a ep es)[i]'(by rw[g.size];exact d)):=by simp[d]
 refine ag ?_;rw[show((eX w t i:Nat):Int).toNat=eX w t i from eZ _,show((i:Nat):Int).toNat=i from eZ _,show((ep:Nat):Int).toNat=ep from eZ _]
 refine B3 hS g i (d9 d) ?_;rw[j];dsimp only[Option.map]
 refine ag (mN ho hd (by simp) ?_)
 obtain⟨b,f,m,h⟩:∃b,(s.heap.update it (Obj.mapFields (·.setIfInBounds 0 (rawInt (eX w t (i+1):Nat))))).get? it=some b/\b.cls=.type "set_iterator"/\b.data=.fields #[.int (eX w t (i+1):Nat) 0,.int i 0,.ref a,.int es.size 0,.int ep 0] :=
  ⟨_,kC _ ho (xX (kH hd _)),(yi ..).trans hc,by rw[kH hd];simp[rawInt]⟩
 have k:Heap.SameBut it s.heap (s.heap.update it (Obj.mapFields (·.setIfInBounds 0 (rawInt (eX w t (i+1):Nat))))):=jD ..
 generalize (s.heap.update it (Obj.mapFields (·.setIfInBounds 0 (rawInt (eX w t (i+1):Nat)))))=H1 at f k ⊢
 refine ag (mN f h (by simp) ?_)
 have p:fN (H1.update it (Obj.mapFields (·.setIfInBounds 1 (rawInt (i+1))))) it a (eX w t (i+1)) (i+1) es.size ep :=
  ⟨_,kC _ f (xX (kH h _)),(yi ..).trans m,by rw[kH h];simp[rawInt]⟩
 exact aj ⟨_,rfl,aj (l _ _ ⟨_,j,rfl⟩ p (k.trans (jD ..)))⟩
def RO(c:A.handled=none)(b:fN s.heap it a (eX w t es.size) es.size es.size ep)(hS:s.heap.get? a=some (eu es ep t))(g:gj w a ep es t)
  (d:∀h',Heap.ExtBut it s.heap h'->Q none {s with heap:=h'}):wpAny (model prog w) A (pyNext (.ref it)) Q E s:=by
 obtain⟨o,ho,hc,hd⟩:=id b;unfold pyNext;refine ag (sQ (jC b.typeIs eU (fX eU b.typeIs me ?_ (oy _))));unfold Builtin.«set_iterator.__next__»;refine ag (aj ?_);refine ag (wpAny_fieldsOf ho hd ?_);dsimp only
 unfold setEntries;refine ag (ag (kM hS rfl g.fits (aj ?_)));dsimp only
 rw[if_neg (by simp)]
 have e:(m7 w a ep es)[es.size]?=none:=by simp[g.size]
 refine ag ?_;rw[show((eX w t es.size:Nat):Int).toNat=eX w t es.size from eZ _,show((es.size:Nat):Int).toNat=es.size from eZ _,show((ep:Nat):Int).toNat=ep from eZ _]
 refine B3 hS g es.size (au _) ?_;rw[e];dsimp only[Option.map]
 refine ag (mN ho hd (by simp) ?_)
 refine ag ?_;simp only[newExc,newTuple];refine ag (gy ?_ (by size_fits))
 refine ag (yy (by first | rfl | (simp only[firstArgMember];rfl)) ?_)
 refine gy ?_ (by size_fits)
 simp only[raiseNew];refine ag (wpAny_handled ?_);rw[show A.in1.handled=none from c]
 refine ag (aj (wpAny_throw ?_));refine ag (ym ⟨_,cx _ rfl,rfl⟩ isSubtype_stop ?_);exact aj (d _ (((jD ..).extBut.push _).push _))
def MQ(b:fN s.heap it a c i n ep)(h:Q (.ref it) s):wpAny (model prog w) A (pyIter (.ref it)) Q E s:=by
 refine DX b.typeIs oz (fX oz b.typeIs vz ?_ (zC _));exact aj ⟨_,rfl,"set_iterator",_,b.typeIs,eU.lookup,h⟩
def Walks.afD(p:A.handled=none)(I a:Addr)(k:a≠I)(g:gj w a ep es t) :
  Walks prog w A I [I,a] [I] es.size (λi v=>∃e,(m7 w a ep es)[i]?=some e/\v=e.2) (λi h=>fN h I a (eX w t i) i es.size ep/\h.get? a=some (eu es ep t)) where
 sub:=λb j=>by grind
 frame:=λ_ _ _ c hk=>⟨let ⟨o,ho,r⟩:=c.1;⟨o,hk I (by simp) o ho,r⟩,hk a (by simp) _ c.2⟩
 item:=λi s Q E q c d=>MP c.1 c.2 g q λv l u x f=>d v l s.toks u ⟨x,f.extBut a _ k c.2⟩ λb o j e=>f.extBut b o (λh=>j (by simp[h])) e
 done:=λs Q E c d=>RO p c.1 c.2 g λl m=>d l s.toks λb o j e=>m b o (λh=>j (by simp[h])) e
 self:=λ_ _ _ _ c d=>MQ c.1 d
def MR(e:s.TypeIs (.ref r) "set")(h:Q false s):wpAny (model prog w) A (Builtin.List.listLengthHint (.ref r)) Q E s:=by
 unfold Builtin.List.listLengthHint;refine ag (wpAny_specialOf e F.slot_set_len.lookup ?_)
 generalize d:("set.__len__":String)=f
 wp_delta
 rw[show splitId f=some ("set","__len__")from by subst d;decide +kernel]
 subst d;refine ag (ym (b:=true) e (by rw[isSubtype_type];kernel_rfl) ?_)
 refine Ea (λc=>absurd c (by decide)) (λ_=>?_)
 refine Ea (λ_=>?_) (λc=>absurd (by decide +kernel) c)
 refine ag (pN e ?_);exact aj h
def RP(g:gj w a ep es t):W.KdlSrc prog w "set" a a es.size (λi v=>∃e,(m7 w a ep es)[i]?=some e/\v=e.2) (λh=>h.get? a=some (eu es ep t)) where
 type:=λ_ b=>⟨_,b,rfl⟩
 there:=λ_ b=>⟨bf b,bf b⟩
 keep:=λ_ _ b hk=>hk a (.inl rfl) _ b
 notList:=by decide
 notTuple:=by decide
 hint:=λ_ _ _ _ b c=>MR ⟨_,b,rfl⟩ c
 iter:=λA s d b=>⟨_,_,(λ_ _ c=>E5 b g.fits g.ok c),Walks.afD d _ a (bK (bf b)) g,⟨⟨_,cx _ rfl,rfl,by
  have:eX w t 0=0:=by unfold eX Hg;split<;>rfl
  rw[this];rfl⟩,bj _ b⟩⟩
end
section
open PyProof.Rows
theorem uu:∀(l:List α) (i:Nat) (h:i<l.length),([l[i]]++l.eraseIdx i).Perm l
 | [],i,h=>absurd h (by simp)
 | x::l,0,_=>.refl _
 | x::l,i+1,h=>by
  have a:i<l.length:=by simpa using h
  have ih:=uu l i a;rw[List.getElem_cons_succ,List.eraseIdx_cons_succ];exact(List.Perm.swap x l[i] (l.eraseIdx i)).trans (ih.cons x)
theorem Hh(nx:Nat->Nat):∀(a k:Nat) (left:List α) (out:Array α),a=left.length->(pickOrder.go nx a k left out).toList.Perm (out.toList++left)
 | 0,k,left,out,h=>by
  have:=mz h.symm;subst this;rw[eG];exact .refl _
 | a+1,k,left,out,h=>by
  have b:nx k%left.length<left.length:=Nat.mod_lt _ (by lia)
  unfold pickOrder.go;rw[b6 b];refine(Hh nx a (k+1) (left.eraseIdx (nx k%left.length)) (out.push left[nx k%left.length]) (by grind)).trans ?_
  rw[yg,b7];refine List.Perm.append_left _ ?_;exact uu left _ b
def Jz(nx:Nat->Nat)(xs:Array α):(pickOrder nx xs).toList.Perm xs.toList:=by
 unfold pickOrder;have:=Hh nx xs.size 0 xs.toList #[] (by simp)
 simpa using this
def B4(w:World)(a:Addr)(c:Nat)(b:Array (Int×Value)):(m7 w a c b).toList.Perm b.toList:=by
 unfold m7;split
 ·exact Jz _ _
 ·exact .refl _
def MS(w:World)(a:Addr)(c:Nat)(b:Array (Int×Value)):(m7 w a c b).size=b.size:=by
 have:=(B4 w a c b).length_eq;simpa using this
def intOf:Value->Int
 | .int n _=>n
 | _=>0
theorem B5:∀(l:List (Int×Value)),(∀e∈l,∃n t,e.2=.int n t)->IntsAre (l.map (·.2)) (l.map λe=>intOf e.2)
 | [],_=>.nil
 | e::l,h=>by
  obtain⟨n,t,q⟩:=h e aM;have ih:=B5 l λx a=>h x (aK _ a)
  rw[aO,aO,q];exact .cons n t ih
def ju(place:Array Nat)(led:Bool):SetTable:={mask:=7,place:=place,dummies:=#[],finger:=0,led:=led,moves:=0,plain:=true}
def E6:∀k:_root_.Fin 64,hashInt ((k:Nat):Int)=((k:Nat):Int):=by decide +kernel
def Xb:∀(k:_root_.Fin 64) (led:Bool),(ju #[] led).freeSlot ((k:Nat):Int)=some ((k:Nat)%8,false):=by decide +kernel
def Xc:∀(p:_root_.Fin 8) (k:_root_.Fin 64) (led:Bool),∃q:_root_.Fin 8,(ju #[(p:Nat)] led).freeSlot ((k:Nat):Int)=some ((q:Nat),false)/\q≠p:=by decide +kernel
def RQ:∀p:_root_.Fin 8,SetTable.below #[(p:Nat)] 0=0/\SetTable.below #[(p:Nat)] ((p:Nat)+1)=1:=by decide +kernel
def RS:∀p q:_root_.Fin 8,p<q->SetTable.below #[(p:Nat),(q:Nat)] 0=0/\SetTable.below #[(p:Nat),(q:Nat)] ((p:Nat)+1)=1/\SetTable.below #[(p:Nat),(q:Nat)] ((q:Nat)+1)=2:=by decide +kernel
def RT:∀p q:_root_.Fin 8,q≠p->SetTable.below #[(p:Nat)] (q:Nat)=if p<q then 1 else 0:=by decide +kernel
def abw(k:_root_.Fin 64)(a:Bool)(h:Int)(x:Value)(b:h=((k:Nat):Int)):layNew (ju #[] a) #[] h x=(#[(h,x)],ju #[(k:Nat)%8] a,false,false):=by
 subst b;unfold layNew;rw[Xb k a];rfl
def abx(p:_root_.Fin 8)(k:_root_.Fin 64)(a:Bool)(h:Int)(x:Value)(d:h=((k:Nat):Int))(e:Int×Value) :
  ∃q:_root_.Fin 8,q≠p/\layNew (ju #[(p:Nat)] a) #[e] h x=if p<q then(#[e,(h,x)],ju #[(p:Nat),(q:Nat)] a,false,false)else(#[(h,x),e],ju #[(q:Nat),(p:Nat)] a,false,false):=by
 subst d;obtain⟨q,f,b⟩:=Xc p k a;refine⟨q,b,?_⟩;have g:=RT p q b;unfold layNew;rw[f];dsimp only
 unfold SetTable.put;have i:SetTable.below (ju #[p] a).place q=if p<q then 1 else 0:=g
 rw[i];by_cases c:p<q
 ·rw[if_pos c,if_pos c];rfl
 ·rw[if_neg c,if_neg c];rfl
end
section
open PyProof.Rows
section
variable {prog:Program} {w:World} {A:Around} {E:Value->Shared->Prop} {s:Shared} {a:Addr} {es vA:Array (Int×Value)} {ep:Nat} {t t1:SetTable}
def B6(h:∀e∈es.toList,∃k tk,e.2=.int k tk/\e.1=hashInt k):ElemsOf (intKind prog w) es.toList:=λe he=>by
 obtain⟨k,tk,b,c⟩:=h e he;exact⟨⟨k,by rw[b];exact intKind_is _ _ _ _,c⟩,by rw[b];rfl⟩
def RU(hS:s.heap.get? a=some (eu es ep t))(vA:Array (Int×Value))(t1:SetTable):(s.heap.update a (Obj.putSet vA t1)).get? a=some (eu vA (ep+1) t1):=by
 have:=kC (Obj.putSet vA t1) hS (by rw[putSet_of vA t1 (rfl)];rfl)
 rw[putSet_of vA t1 (rfl)]at this;exact this
def E7(hS:s.heap.get? a=some (eu es ep t))(b:t.fits es.size=true)(d:∀e∈es.toList,∃k tk,e.2=.int k tk/\e.1=hashInt k)(j:es.size+1<scanBound)
  (f:es.toList.findIdx? (λe=>(intKind prog w).is k e.2)=none) (g:layNew t es (hashInt k) (.int k tk)=(vA,t1,false,false)) (hp:t1.plain=true) (i:t1.tooFull=false) (hz:vA.size<=sizeLine)
  (h:Q true {s with heap:=s.heap.update a (Obj.putSet vA t1)}):wpAny (model prog w) A (setAddHashed a (.int k tk) (hashInt k)) Q E s:=by
 have c:=B6 (prog:=prog) (w:=w) d;unfold setAddHashed setAddHashedIn;refine dZ (ag (kM hS rfl b ?_));dsimp only
 rw[byScan_of rfl (d9 ‹_›) c];simp only[↓reduceIte];unfold setAddByScan;refine ag ?_;refine ag (gz ?_);refine ag (wpAny_setScan_of (intKind_is _ _ _ _) hS rfl b c ?_);rw[f];dsimp only
 rw[g];dsimp only
 refine ag ?_;refine aj ?_;rw[hp,if_pos rfl];refine ag ?_;rw[hashByValue_scannable 8 rfl];refine aj ?_;have e:(if plainKind (Value.int k tk)=true then t1 else {t1 with plain:=false})=t1:=if_pos rfl
 rw[e];refine ag (wpAny_storeSet_of hS rfl ?_ hz);rw[i,if_neg (by simp)]
 exact aj (aj h)
def E8(hS:s.heap.get? a=some (eu es ep t))(b:t.fits es.size=true)(d:∀e∈es.toList,∃k tk,e.2=.int k tk/\e.1=hashInt k)(g:es.size+1<scanBound)
  (f:es.toList.findIdx? (λe=>(intKind prog w).is k e.2)=some j) (h:Q false s):wpAny (model prog w) A (setAddHashed a (.int k tk) (hashInt k)) Q E s:=by
 have c:=B6 (prog:=prog) (w:=w) d;unfold setAddHashed setAddHashedIn;refine dZ (ag (kM hS rfl b ?_));dsimp only
 rw[byScan_of rfl (d9 ‹_›) c];simp only[↓reduceIte];unfold setAddByScan;refine ag ?_;refine ag (gz ?_);refine ag (wpAny_setScan_of (intKind_is _ _ _ _) hS rfl b c ?_);rw[f];dsimp only
 exact aj (aj h)
end
def fG(a:Bool)(xs:List Int)(b:Array (Int×Value))(t:SetTable):Prop :=
 (∀e∈b.toList,∃k c,e.2=.int k c/\e.1=hashInt k)/\(b.toList.map λe=>intOf e.2).Perm xs /\
 ((xs=[]/\b=#[]/\t=ju #[] a)\/(∃(p:_root_.Fin 8) (x:Int),xs=[x]/\t=ju #[(p:Nat)] a)\/∃(p q:_root_.Fin 8) (x y:Int),xs=[x,y]/\p<q/\t=ju #[(p:Nat),(q:Nat)] a)
def fG.fits(h:fG led xs b t):t.fits b.size=true/\b.size=xs.length/\b.size<=2:=by
 obtain⟨_,hp,hc⟩:=h;have a:=hp.length_eq;simp at a;rcases hc with⟨rfl,rfl,rfl⟩ | ⟨p,x,rfl,rfl⟩ | ⟨p,q,x,y,rfl,_,rfl⟩
 ·exact⟨rfl,a,by decide⟩
 ·simp at a;exact⟨by rw[a];rfl,a,by lia⟩
 ·simp at a;exact⟨by rw[a];rfl,a,(gW ‹_›)⟩
def fG.good(h:fG (!BT w) xs b t):gj w a f b t:=by
 obtain⟨g,d,m⟩:=h.fits;refine⟨g,MS w a f b,λj=>?_⟩
 obtain⟨_,hp,hc⟩:=h;rw[j]at hc;rcases hc with⟨rfl,rfl,rfl⟩ | ⟨p,x,rfl,rfl⟩ | ⟨p,q,x,y,rfl,k,rfl⟩
 ·refine⟨rfl,rfl,λi e=>?_⟩
  have:i=0:=by grind
  subst this;rfl
 ·obtain⟨c,b2⟩:=RQ p;refine⟨rfl,rfl,λi e=>?_⟩
  have:b.size=1:=d;have:i=0\/i=1:=by lia
  rcases this with rfl | rfl
  ·exact c
  ·exact b2
 ·obtain⟨c,b2,l⟩:=RS p q k;refine⟨rfl,rfl,λi e=>?_⟩
  have:=d;have:i=0\/i=1\/i=2:=by lia
  rcases this with rfl | rfl | rfl
  ·exact c
  ·exact b2
  ·exact l
section
variable {prog:Program} {w:World} {A:Around} {E:Value->Shared->Prop} {s:Shared} {a:Addr} {es:Array (Int×Value)} {ep:Nat} {t:SetTable}
noncomputable def mf(xs:List Int)(k:Int):List Int:=if k∈xs then xs else xs++[k]
def E9(hS:s.heap.get? a=some (eu es ep t))(o:fG led xs es t)(hk:0<=k/\k<64)(M:xs.length<=1)
  (h:∀b h' d r c,Heap.SameBut a s.heap h'->h'.get? a=some (eu d r c)->fG led (mf xs k) d c->Q b {s with heap:=h'}):wpAny (model prog w) A (setAddHashed a (.int k tk) (hashInt k)) Q E s:=by
 obtain⟨D,N,f3⟩:=o.fits;obtain⟨m,hp,hc⟩:=id o;have H:es.size+1<scanBound:=by
  have:scanBound=4096:=rfl
  lia
 have vD:∀e∈es.toList,(intKind prog w).is k e.2=true↔intOf e.2=k:=λe he=>by
  obtain⟨n,R,q,_⟩:=m e he;rw[q];show Value.isInt k (.int n R)=true↔n=k;simp[Value.isInt]
 cases u:es.toList.findIdx? (λe=>(intKind prog w).is k e.2)with
 | some j =>
  obtain⟨hj,T,_⟩:=xQ.mp u;have I:k∈xs:=by
   grind
  refine E8 hS D m H u ?_;have:=h false s.heap es ep t (Heap.SameBut.refl a s.heap) hS (by unfold mf;rw[if_pos I];exact o)
  exact this
 | none =>
  have X:k∉xs:=λI=>by
   grind
  have T7:hashInt k=k:=by
   have:=E6 ⟨k.toNat,by lia⟩
   rw[show(⟨k.toNat,by lia⟩:_root_.Fin 64)=k from kG hk.1]at this
   exact this
  have i:hashInt k=(⟨k.toNat,by lia⟩:_root_.Fin 64):=by
   grind
  have fin:∀d c,layNew t es (hashInt k) (.int k tk)=(d,c,false,false)->c.plain=true->c.tooFull=false->d.size<=2->fG led (mf xs k) d c->wpAny (model prog w) A (setAddHashed a (.int k tk) (hashInt k)) Q E s:=λd c g Y Z q3 q4 =>
   E7 hS D m H u g Y Z (bA q3 (by decide)) (h true _ d (ep+1) c (jD ..) (RU hS d c) q4)
  have v:mf xs k=xs++[k]:=by unfold mf;rw[if_neg X]
  rcases hc with⟨rfl,rfl,rfl⟩ | ⟨p,x,rfl,rfl⟩ | ⟨p,q,x,y,rfl,l,rfl⟩
  ·refine fin _ _ (abw ⟨k.toNat,by lia⟩ led _ _ i) rfl rfl (by simp) ?_
   rw[v];refine⟨λe he=>?_,.refl _,.inr (.inl ⟨⟨(⟨k.toNat,by lia⟩:_root_.Fin 64).val%8,Nat.mod_lt _ (by decide)⟩,k,rfl,rfl⟩)⟩
   have he:=he;have he:=aV.mp he;subst he;exact⟨k,tk,rfl,rfl⟩
  ·have B:=N;obtain⟨f,rfl⟩:∃f,es=#[f]:=Array.size_eq_one_iff.mp B
   obtain⟨q,C,g⟩:=abx p ⟨k.toNat,by lia⟩ led (hashInt k) (.int k tk) i f
   have J:(intOf f.2)=x:=by
    have hm:=hp.mem_iff.mp (aE.mpr ⟨f,by simp,rfl⟩)
    simpa using hm
   have L:=m f (by simp)
   by_cases l:p<q
   ·rw[if_pos l]at g;refine fin _ _ g rfl rfl (by simp) ?_
    rw[v];refine⟨λe he=>?_,?_,.inr (.inr ⟨p,q,x,k,rfl,l,rfl⟩)⟩
    ·have he:=he;simp only[aU,eE,e9]at he;rcases he with rfl | rfl
     ·exact L
     ·exact⟨k,tk,rfl,rfl⟩
    ·show [intOf f.2,k].Perm ([x]++[k]);rw[J];exact .refl _
   ·rw[if_neg l]at g;refine fin _ _ g rfl rfl (by simp) ?_
    rw[v];refine⟨λe he=>?_,?_,.inr (.inr ⟨q,p,x,k,rfl,?_,rfl⟩)⟩
    ·have he:=he;simp only[aU,eE,e9]at he;rcases he with rfl | rfl
     ·exact⟨k,tk,rfl,rfl⟩
     ·exact L
    ·show [k,intOf f.2].Perm ([x]++[k]);rw[J];exact .swap x k []
    ·have h3:q≠(p:Nat):=λe=>C (_root_.Fin.ext e)
     have h4:¬(p:Nat)<(q:Nat):=l;show(q:Nat)<(p:Nat)
     lia
  ·simp at M
end
end
end PySem
namespace PySem
open PyProof.Rows
def qb(val:Nat->Int):Nat->List Int
 | 0=>[]
 | i+1=>mf (qb val i) (val i)
theorem uv(val:Nat->Int):∀i,(qb val i).length<=i
 | 0=>au _
 | i+1=>by
  have:=uv val i;unfold qb mf;split
  ·lia
  ·simp;lia
section
variable {prog:Program} {w:World} {A:Around} {R:Result->Shared->Prop} {I:Addr} {fp wr:List Addr} {G:Array GenState->Array GenState->Prop} {n:Nat} {P:Nat->Value->Prop} {St:Nat->Shared->Prop}
def B7(W:WalksS prog w A.in1 I fp wr G n P St)(S:Addr)(f:S∉fp)(val:Nat->Int)(H:∀i v,P i v->∃t,v=.int (val i) t)(q:∀i,i<n->0<=val i/\val i<64)(hn:n<=2)(g:Bool) :
  ∀(k i:Nat) (s:Shared),n-i=k->i<=n->St i s->(∃a d t,s.heap.get? S=some (eu a d t)/\fG g (qb val i) a t) ->
   (∀c,Moved (S::wr) G s c->(∃a d t,c.heap.get? S=some (eu a d t)/\fG g (qb val n) a t)->R (.ok (.ret .none)) c) ->
   codeAny (model prog w) A (.builtin "set.update.loop" ⟨[.ref S,.ref I],[]⟩) R s:=by
 have j:S∉wr:=λh=>f (W.sub _ h)
 have D:∀b∈wr,b∈S::wr:=by grind
 intro k;induction k with
 | zero =>
  intro i s hk J r hS u;have L:i=n:=by lia
  subst L;refine pG F.entry_set_update_loop ?_;rw[sv DM _];refine ag (W.done s _ _ r λc l=>?_)
  exact aj (u c (l.mono D) (by
   obtain⟨a,d,t,ho,m⟩:=hS;exact⟨a,d,t,l.heap S _ j ho,m⟩))
 | succ k ih =>
  intro i s hk J r hS u;have x:i<n:=by lia
  refine pG F.entry_set_update_loop ?_;rw[sv DM _];refine ag (W.item i s _ _ x r λv c M N l=>?_)
  obtain⟨t,rfl⟩:=H i v M;obtain⟨a,d,tb,ho,Q⟩:=hS;have T:=l.heap S _ j ho;refine ag (dZ ?_);unfold setAdd;refine dZ ?_;refine ag ((intKind prog w).pyHash (intKind_is _ _ _ _) ?_);have X:=uv val i;refine E9 T Q (q i x) (by lia) λb h' Y y Z p B C=>?_
  refine aj ⟨yx DM _,ih (i+1) _ (by lia) x (W.frame _ c _ _ N (sW _) λb E o e=>?_) ⟨Y,y,Z,B,C⟩ λLB Xg Xh=>?_⟩
  ·rw[p.2 b (λh:b=S=>f (by grind))];exact e
  ·refine u LB (Moved.trans W.gtrans ((l.mono D).then_heap (sW _) λb o E e=>?_) Xg) Xh
   rw[p.2 b (λh:b=S=>E (by grind))];exact e
end
section
variable {prog:Program} {w:World} {A:Around} {E:Value->Shared->Prop} {s:Shared}
def vE(a:Value)
  (h:Q₁ (.ref s.heap.objs.size) {s with heap:=s.heap.push {cls:=.type "set",dict:=none,data:=.set #[] 0 (.fresh 0 0 (!BT w))}}) :
  codeAny (model prog w) A (.call (.builtin "set.__new__") ⟨[.type "set",a],[]⟩) (wants Q₁ E) s:=by
 refine codeAny_of_tree ?_;refine ag (yy (F.newCall_set_1 a) (aj ⟨yx F.plain_set_new _,pG F.entry_set_new ?_⟩));rw[sv F.plain_set_new _];unfold Builtin.«set.__new__» Builtin.Frozenset.newClass;have b:=sub_set_self;obtain⟨hp,g,d,c,e⟩:=s;dsimp only
 wp_walk
 refine D7 (aj ?_);dsimp only
 simp only[newObj];refine ag (wpAny_alloc (aj ?_));exact aj h
end
def fG.nil(a:Bool):fG a [] #[] (ju #[] a):=by
 refine⟨λe he=>?_,List.Perm.refl _,.inl ⟨rfl,rfl,rfl⟩⟩
 cases he
section
variable {prog:Program} {w:World} {A:Around} {E:Value->Shared->Prop} {s:Shared}
set_option maxHeartbeats 3200000 in
theorem B8(X:A.handled=none)(Y:s.heap.IsList l items)(Z:IntsAre items.toList ns)(u:items.size<=2)(x:∀i,i<items.size->0<=ns.getD i 0/\ns.getD i 0<64)
  (h:∀(h':Heap) (tk:Nat) f j t,h'.get? s.heap.objs.size=some (eu f j t)->fG (!BT w) (qb (λi=>ns.getD i 0) items.size) f t->(∀b o,b<s.heap.objs.size->s.heap.get? b=some o->h'.get? b=some o)->Q (.ref s.heap.objs.size) {s with heap:=h',toks:=tk}) :
  wpAny (model prog w) A (call (.type "set") [.ref l]) Q E s:=by
 obtain⟨c,tl,ajL⟩:=F.called_set.mro;have ahs:=F.called_set.made;have BN:=F.called_set.sub;refine sX (codeAny_of_tree ?_);refine aj ⟨Code.quiet_builtin _ (by decide +kernel),pG F.entry_type_call ?_⟩
 rw[Around.under_plain (weight_type_call_type "set" [.ref l] []) rfl];have h1:=F.called_set.notType;have h2:=F.called_set.canCreate;have hct:=F.typeCall_set_1 (.ref l)
 repeat (any_goals (first | assumption | wp_step))
 refine kP (vE (.ref l) (E:=E) (Q₁:=λobj d=>obj=.ref s.heap.objs.size/\d={s with heap:=s.heap.push {cls:=.type "set",dict:=none,data:=.set #[] 0 (.fresh 0 0 (!BT w))}}) ⟨rfl,rfl⟩) λr d y=>?_
 cases r with
 | error e=>exact y
 | ok fl =>
  cases fl with
  | ret obj =>
   obtain⟨rfl,rfl⟩:=y;obtain⟨a,B⟩:∃a,a = !BT w:=⟨_,rfl⟩
   rw[<-B];have hS:(s.heap.push {cls:=.type "set",dict:=none,data:=.set #[] 0 (.fresh 0 0 a)}).get? s.heap.objs.size=some {cls:=.type "set",dict:=none,data:=.set #[] 0 (.fresh 0 0 a)}:=cx _ rfl
   have hT:Shared.TypeIs {s with heap:=s.heap.push {cls:=.type "set",dict:=none,data:=.set #[] 0 (.fresh 0 0 a)}} (.ref s.heap.objs.size) "set":=⟨_,hS,rfl⟩
   have hli:=F.called_set.init.lookup;have hbi:=F.called_set.init.bind (.ref s.heap.objs.size)
   repeat (any_goals (first | assumption | wp_step))
   refine kP (codeAny_call_builtin (R:=wants (λr L=>r=.none/\∃h' tk,L={s with heap:=h',toks:=tk} /\
     (∃f j t,h'.get? s.heap.objs.size=some (eu f j t)/\fG a (qb (λi=>ns.getD i 0) items.size) f t) /\
     (∀b o,b<s.heap.objs.size->s.heap.get? b=some o->h'.get? b=some o)) E) F.called_set.init.plain F.entry_set_init (check_set_init_1 hT ?_)) λC L D=>?_
   ·obtain⟨ol,M,k,N,T⟩:=Y;obtain⟨afI,Ue,abA,MU⟩:=ol;simp only at k T;subst k;subst T;have H:(s.heap.push {cls:=.type "set",dict:=none,data:=.set #[] 0 (.fresh 0 0 a)}).get? l=some {cls:=.type "list",dict:=Ue,data:=.seq items N,slots:=MU}:=bj _ M
    have ajM:=F.sub_list_set;have ajN:=F.sub_list_frozenset;have hne:(Value.type "list"==Value.type "dict")=false:=by decide
    have m:(s.heap.push {cls:=.type "set",dict:=none,data:=.set #[] 0 (.fresh 0 0 a)}).IsList l items:=⟨_,H,rfl,N,rfl⟩
    unfold Builtin.«set.__init__» noKeywords Builtin.Frozenset.updateFrom
    generalize I:pyIter=PI
    wp_walk
    subst I;refine D2 m ?_;refine ag (wpAny_runValue ?_);have p:l<s.heap.objs.size:=bf M;have Fb:∀(i:Nat) (v:Value),items[i]?=some v->∃t,v=.int ((λi=>ns.getD i 0) i) t:=λi v hv =>
     PyProof.Rows.IntsAre.int_at Z i v (by grind)
    refine B7 ((Walks.list (by simp[X]) _ l (by rw[pH];exact bK (yj p)) items).toS) s.heap.objs.size (by
     rw[pH];simp only[aU,aV,eE,e9,not_or];exact⟨bK (sN _),sS p⟩) (λi=>ns.getD i 0) Fb x u a (items.size-0) 0 _ (by lia) (dn _)
     ⟨⟨_,cx _ rfl,rfl,rfl⟩,(m.push _)⟩ ?hS0 ?hR
    case hS0 =>
     exact⟨#[],0,ju #[] a,bj _ hS,fG.nil a⟩
    case hR =>
     intro s' q g;obtain⟨h',g',d',O3,VU⟩:=s';have eg:g'=s.gens:=q.gens;have ed:d'=s.drawn:=q.drawn;have eo:VU=s.os:=q.os;subst eg;subst ed;subst eo;show wpAny _ _ _ _ _ _;refine aj ?_;show wpAny _ _ (ret Value.none) _ _ _;refine aj ⟨rfl,h',O3,rfl,g,λb o u e=>?_⟩
     have hb1:b≠s.heap.objs.size:=by grind
     have hb2:b≠(s.heap.push {cls:=.type "set",dict:=none,data:=.set #[] 0 (.fresh 0 0 a)}).objs.size:=by
      rw[pH];exact bK (yj u)
     exact q.heap b o (by grind) (bj _ (bj _ e))
   ·cases C with
    | error e=>exact D
    | ok J =>
     cases J with
     | ret r =>
      obtain⟨rfl,h',tk,rfl,⟨f,j,t,g,h2'⟩,T7⟩:=D
      repeat (any_goals (first | assumption | wp_step))
      exact h _ _ f j t g (by grind) T7
     | _=>exact D.elim
  | _=>exact y.elim
end
section
variable {prog:Program} {w:World} {A:Around} {E:Value->Shared->Prop} {s:Shared} {a:Addr} {es:Array (Int×Value)} {ep:Nat} {t:SetTable}
def vF(y:A.handled=none)(hS:s.heap.get? a=some (eu es ep t))(d:fG (!BT w) xs es t)
  (h:∀(h1 h':Heap) (tk:Nat) (D:Addr) (out:Array Value) (f:List Int) (e:Nat),(∀b o,s.heap.get? b=some o->h1.get? b=some o)->(∀b o,h1.get? b=some o->h'.get? b=some o)->h1.objs.size<=D->h'.get? D=some (seqObj "list" out e)->IntsAre out.toList f->f.Perm xs->f.Pairwise (· <= ·)->Q (.ref D) {s with heap:=h',toks:=tk}) :
  wpAny (model prog w) A (call (.builtin "sorted") [.ref a]) Q E s:=by
 have g:gj w a ep es t:=d.good;obtain⟨N,R,u⟩:=d.fits;refine DH kind_sorted plain_sorted entry_sorted (args_sorted1 _) ?_;unfold Builtin.«sorted»;refine ag (aj ?_);refine ag (W.kdu_collect (RP g) (by simp[y]) hS (bA u (by decide)) λh' tk c hk l=>?_)
 have m:c.toList=(m7 w a ep es).toList.map (·.2):=by
  refine List.ext_getElem? λj=>?_
  rw[bP,mG,mG];by_cases B:j<es.size
  ·have h1:j<c.size:=by rw[l.1];exact B
   obtain⟨e,he,C⟩:=l.2 j c[j] (by simp[h1])
   rw[he];simp[h1,C]
  ·have h1:c[j]?=none:=by
    have:=l.1;simp;lia
   have d:(m7 w a ep es)[j]?=none:=by
    have:=g.size;simp;lia
   rw[h1,d];rfl
 have i:=B4 w a ep es;have p:=(i.map _).trans d.2.1;have H:c.toList.length<=2:=by
  rw[de,l.1];exact u
 refine ag (wpAny_newList ?_ (bA H (by decide)))
 have r:(h'.push (seqObj "list" c.toList.toArray 0)).get? h'.objs.size=some (seqObj "list" c.toList.toArray 0):=cx _ rfl;show wpAny _ _ _ _ _ {s with heap:=h'.push (seqObj "list" c.toList.toArray 0),toks:=tk}
 refine ag (dZ (fX slot_list_sort ⟨_,r,rfl⟩ entry_list_sort (list_sort_tree r (by
  rw[m];exact B5 _ λe he=>by
   obtain⟨k,tk,q,_⟩:=d.1 e (i.mem_iff.mp he);exact⟨k,tk,q⟩) (by lia) λout f I J L=>⟨_,rfl,?_⟩) (args_list_sort _)))
 obtain⟨e,M⟩:=sortedHeap_at r;refine aj ⟨_,rfl,h h' _ tk h'.objs.size out f e hk (λb o v=>?_) (au _) M I (J.trans p) L⟩
 have x:=bf v;rw[sortedHeap_old (bK x) (by rw[size_push'];exact yj x)]
 exact bj _ v
end
end PySem
namespace L2.U
open PySem PySem.Spec PyProof.Rows
noncomputable def insI(x:Int):List Int->List Int
 | []=>[x]
 | y::r=>if x<=y then x::y::r else y::insI x r
def iM:List Int->List Int
 | []=>[]
 | x::r=>insI x (iM r)
theorem qc(x:Int):∀l:List Int,(insI x l).Perm (x::l)
 | []=>.refl _
 | y::r=>by
  unfold insI;split
  ·exact .refl _
  ·exact((qc x r).cons y).trans (.swap x y r)
theorem fH:∀l:List Int,(iM l).Perm l
 | []=>.refl _
 | x::r=>(qc x (iM r)).trans ((fH r).cons x)
theorem Hj(x:Int):∀l:List Int,l.Pairwise (· <= ·)->(insI x l).Pairwise (· <= ·)
 | [],_=>List.pairwise_singleton _ _
 | y::r,h=>by
  obtain⟨c,d⟩:=yc.mp h;unfold insI;split
  ·rename_i b;refine yc.mpr ⟨λz a=>?_,h⟩
   rcases aU.mp a with rfl | a
   ·exact b
   ·exact dm b (c z a)
  ·rename_i b;refine yc.mpr ⟨λz a=>?_,Hj x r d⟩
   rcases aU.mp ((qc x r).mem_iff.mp a)with rfl | a
   ·lia
   ·exact c z a
theorem uw:∀l:List Int,(iM l).Pairwise (· <= ·)
 | []=>.nil
 | x::r=>Hj x _ (uw r)
def Hk:GC:=λh b=>match b with
 | [p]=>(BD h p).bind λc=>(l9 c).bind λa=>if(a.length<64\/a.length<128/\a.Nodup)then some (.lst ((iM a).map .int))else none
 | _=>none
def uz:∀{b:List Value} {c:List Int},IntsAre b c->Vals (c.map V.int) b:=by
 intro b c h;induction h with
 | nil=>exact .nil
 | cons a t _ ih=>exact .cons ⟨t,rfl⟩ ih
theorem lK{K:W.Frag}:∀a:List Int,aG K F (a.map .int) (a.map V.int)
 | []=>.nil
 | n::r=>.cons (aH.mpr rfl) (lK r)
section
variable {X:Cx} {aa:Hp} {ab:Fz} {e o:Expr} {fe fo:Gx PV} {pos p Fc zp ap cp:Pos}
def Fd:I0 X (.builtin "sorted") Hk:=by
 rintro D s σ H xs us Q I rs ⟨aa,ab,F,st,E,J,p,e,R,bs,k⟩
 unfold Hk at e;split at e
 ·obtain⟨L,e1,e⟩:=aZ e;obtain⟨c,g,e⟩:=aZ e;obtain⟨h,rfl⟩:=aR e;obtain⟨v,rfl,b⟩:=dU bs;obtain⟨a,M,rfl,i,j⟩:=R.at (ig e1) b;obtain⟨f,r,pl,_⟩:=I.list (lB.sq i);have l:=oi g j;subst l;have m:=mV r;have N:f.length=c.length:=by rw[<-r.length,ao]
  obtain⟨u,rfl,q⟩:=j9 rs;cases q;refine OY.EK pl.isList m (by grind) λd T t hp w=>?_
  have e1:=W.ksm_same (hp.trans (fH c).symm) w (uw c);subst e1;obtain⟨x,y⟩:=sortedAll_at s.heap f d;have B:=I.hok.fresh (sW _);obtain⟨R2,C⟩:=R.laid (.lst ((iM c).map V.int)) B;refine⟨.ref (s.heap.objs.size+1),cC H (s.heap.objs.size+1) (.lst ((iM c).map V.int)),I.laid (λb u e=>sortedAll_old e) (sW _) ⟨?_,d.toList,x,uz t,y⟩,rfl,k _ _ _ R2 C (gH.mpr ⟨_,_,rfl,lB.of aF,lK _⟩)⟩
  rw[ao,(fH c).length_eq];exact bA (show c.length<=128 by lia) (by decide)
 ·cases e
def Hl(h:starEach [e] X.env=(false,eval e X.env)::starEach [] X.env)(a:wpAny M A (eval e X.env) (λv s1=>Q [v] s1) E s):wpAny M A (spliced (backTo pos (starEach [e] X.env))) Q E s:=by
 rw[h];exact Calls.spliced_cons (thn a λv s1 q=>Calls.spliced_nil q)
def qD:bootBuiltins "sorted"=some (.builtin "sorted"):=by kernel_rfl
def MV:bootBuiltins "set"=some (.type "set"):=by kernel_rfl
def ssO(h:List aw)(p:PV):Option PV:=(BD h p).bind λb=>(l9 b).bind λa=>if(a.length<=2/\a.all (λn=>decide (0<=n/\n<64))=true)then some (.lst ((iM (qb (λi=>a.getD i 0) a.length)).map .int))else none
def MW(fe:Gx PV):Gx PV:=bnd fe λp=>hp λh=>ssO h p
def Xi(C:X.A.handled=none)(m:Gl X "sorted")(w:X.mg "sorted"=none)(Y:Gl X "set")(Z:X.mg "set"=none)(he:PE X e (tE X aa ab fe))(E:starEach [e] X.env=[(false,eval e X.env)]) :
  PE X (.Call (.Name "sorted" p) [.Call (.Name "set" zp) [e] [] Fc] [] pos) (tE X aa ab (MW fe)):=by
 rintro J s σ H Q I ⟨F,st,Rp,h⟩
 have hA:=he J s σ H (λv d=>∃F1 f q,Rep X.K aa ab F1 f σ d/\bZ X.K F1 q v/\Tx X aa ab (bZ X.K) F1 f (hp λh=>ssO h q) σ Q) I ⟨F,st,Rp,h.bnd λq v F1 f d j g1 x l=>⟨F1,f,q,j,x,l⟩⟩
 refine kJ (ld_blt I m w qD ?_ (by decide) (by decide))
 refine KD (Hl rfl ?_) rfl rfl;refine Call_ (ld_blt I Y Z MV (kA (Hl E (thn hA λu s1 z9=>?_)) E rfl))
 obtain⟨v,d,L,r1,F1,f,q,j,x,l⟩:=z9;obtain⟨o,g,k⟩:=l.hp;obtain⟨qs,e1,g⟩:=aZ g;obtain⟨c,f2,g⟩:=aZ g;obtain⟨⟨Zc,hal⟩,rfl⟩:=aR g;obtain⟨a,vs,rfl,ha,jR⟩:=j.at (ig e1) x;cases r1;obtain⟨M,r,pl,_⟩:=L.list (lB.sq ha);have ev:=oi f2 jR;subst ev;have hi:=mV r;have eQ:M.length=c.length:=by rw[<-r.length,ao]
 have y:M.toArray.size=c.length:=by grind
 refine B8 C pl.isList hi (by lia) (λi hi'=>?_) λh' tk ZD ep t hS N hk=>?_
 ·simp_all
 ·rw[y]at N;have I2:Inv X J σ d {s1 with heap:=h',toks:=tk}:=L.kept λb o e=>hk b o (bf e) e
  refine vF C hS N λl h'' O3 D B tN e k1 k2 R vH hI hp hu=>?_
  have T:=I2.kept (t':=O3) k1;have e1:=W.ksm_same (hp.trans (fH _).symm) hu (uw _);subst e1;have hz:=T.hok.fresh R;obtain⟨R2,s2⟩:=j.laid (.lst ((iM (qb (λi=>c.getD i 0) c.length)).map V.int)) hz
  refine⟨.ref D,cC d D (.lst ((iM (qb (λi=>c.getD i 0) c.length)).map V.int)),T.laid k2 R ⟨?_,B.toList,e,uz hI,vH⟩,rfl,k _ _ _ R2 s2 (gH.mpr ⟨_,_,rfl,lB.of aF,lK _⟩)⟩
  rw[ao,(fH _).length_eq];have:=uv (λi=>c.getD i 0) c.length
  exact bA this (bA Zc (by decide))
noncomputable def afN:PV->Option PV
 | .str a=>some (.bl (Txt.isdigit a))
 | _=>none
def Xj(fo:Gx PV):Gx PV:=bnd fo λp=>lH (afN p)
def JB:Z8 X "str.isdigit" (λx xs H Q=>∃a,x=.str a/\xs=[]/\Q (.bl (Txt.isdigit a)) H):=by
 rintro f s σ H x xs v us Q I c rs ⟨a,e1,d,q⟩
 subst e1 d;obtain⟨t,rfl⟩:=c;have b:=rs.zero;subst b;exact SC.isdigit ⟨.bl _,H,I,rfl,q⟩
def abF(ho:PE X o (tE X aa ab fo))(a:attributeBase o "isdigit" X.env (eval o X.env)=eval o X.env)(b:(ap.endLine==cp.line)=true):PE X (.Call (.Attribute o "isdigit" ap) [] [] cp) (tE X aa ab (Xj fo)) :=
 (LI F.plainAttrs_str F.slot_str_isdigit F.type_str_isdigit JB ho a b).imp λσ H Q ⟨F,st,R,h⟩=>⟨F,st,R,h.bnd λp v F1 i c d j f g=>by
  obtain⟨o,e,z⟩:=g.lH;cases p<;>cases e
  rw[cZ.mp f];exact⟨rfl,_,rfl,rfl,z _ c F1 d (Gr.refl _) (cj.mpr rfl)⟩⟩
end
end L2.U
namespace PySem
open PyProof.Rows
namespace F
def gn:entryFor table "dict.update.loop"=some Builtin.«dict.update.loop» := entryFor_of_tree (by kernel_rfl)
def c6:plainId "dict.update.loop"=true:=by decide +kernel
end F
section
variable {prog:Program} {w:World} {K:Type} [DecidableEq K] {knd:KeyKind prog w K} {A:Around} {R:Result->Shared->Prop} {I:Addr} {fp wr:List Addr} {G:Array GenState->Array GenState->Prop} {n:Nat} {P:Nat->Value->Prop} {St:Nat->Shared->Prop}
def B9(h:Heap)(b:Addr)(a v:Value):Prop:=∃o m,h.get? b=some o/\o.cls=.type "tuple"/\o.data=.seq #[a,v] m
def rm(hp:B9 s.heap b key v)(h:Q [key,v] s):wpAny (model prog w) A (Builtin.Dict.pairItems (.ref b)) Q E s:=by
 obtain⟨o,m,d,a,c⟩:=hp;unfold Builtin.Dict.pairItems;refine ag (pN ⟨o,d,a⟩ ?_);rw[if_pos (by decide)]
 refine ag ?_;unfold seqItems?;obtain⟨e,g,f,i⟩:=o;simp only at a c;subst a c
 wp_walk
 exact h
def JC(W:WalksS prog w A.in1 I fp wr G n P St)(S:Addr)(l:S∉fp)(hl:kvs.length=n)(hn:n<=sizeLine){s₀:Shared}
  (N:∀i v,P i v->∃b k f u,v=.ref b/\kvs[i]?=some (k,u)/\knd.is k f=true/\b∉S::wr/\B9 s₀.heap b f u) :
  ∀(c i:Nat) (s:Shared),n-i=c->i<=n->St i s->(∀b o,b∉S::wr->s₀.heap.get? b=some o->s.heap.get? b=some o)->s.heap.DictOf knd S (merged [] (kvs.take i)) ->
   (∀a,Moved (S::wr) G s a->a.heap.DictOf knd S (merged [] kvs)->R (.ok (.ret .none)) a) ->
   codeAny (model prog w) A (.builtin "dict.update.loop" ⟨[.ref S,.ref I,rawInt (i:Int),.none],[]⟩) R s:=by
 have p:S∉wr:=λh=>l (W.sub _ h)
 have J:∀b∈wr,b∈S::wr:=by grind
 intro c;induction c with
 | zero =>
  intro i s hk Q t ho hS x;have T:i=n:=by lia
  subst T;refine pG F.gn ?_;rw[sv F.c6 _];refine ag (W.done s _ _ t λa j=>?_)
  refine ag (aj ?_);rw[pj (gW ‹_›)]at hS;refine aj (x a (j.mono J) ?_);obtain⟨o,y,B,q,r⟩:=hS;exact⟨o,y,B,j.heap S _ p q,r⟩
 | succ c ih =>
  intro i s hk Q t ho hS x;have L:i<n:=by lia
  refine pG F.gn ?_;rw[sv F.c6 _];refine ag (W.item i s _ _ L t λv a X Y j=>?_)
  obtain⟨b,k,f,u,rfl,C,Z,D,E⟩:=N i v X;have M:∀b o,b∉S::wr->s₀.heap.get? b=some o->a.heap.get? b=some o:=λb o d e=>j.heap b o (λz=>d (aK _ z)) (ho b o d e)
  refine ag (dZ ?_);refine ag (wpAny_tryCatch (rm (by
   obtain⟨o,m,q,r⟩:=E;exact⟨o,m,M b o D q,r⟩) ?_))
  refine dZ ?_;have hsz:(merged [] (kvs.take i)).length<=sizeLine:=by
   have:=merged_length_le ([]:List (K×Value)) (kvs.take i);rw[iW]at this;simp at this
   lia
  refine wpAny_dictSet_pairs Z (by
   obtain⟨o,y,B,q,r⟩:=hS;exact⟨o,y,B,j.heap S _ p q,r⟩) λh' hd g=>?_
  rw[<-merged_take_succ _ _ _ _ C]at hd;have H:∀b o,b∉S::wr->s₀.heap.get? b=some o->h'.get? b=some o:=λb o d e=>(g.2 b (λh:b=S=>d (by grind))).trans (M b o d e)
  refine aj ⟨yx F.c6 _,ih (i+1) _ (by lia) L (W.frame _ a _ _ Y (fB ..) λb d o e=>?_) H hd λLB Xg Xh=>?_⟩
  ·exact(g.2 b (λh:b=S=>l (by grind))).trans e
  ·refine x LB (Moved.trans W.gtrans ((j.mono J).then_heap (fB ..) λb o d e=>?_) Xg) Xh
   exact(g.2 b (λh:b=S=>d (by grind))).trans e
end
namespace F
def vI:typeLookup (.type "tuple") "keys"=pure none:=by rw[Eb,DR];kernel_rfl
end F
section
variable {prog:Program} {w:World} {A:Around} {E:Value->Shared->Prop} {s:Shared} {a:Addr} {o:Obj} {xs:Array Value} {k:Nat} {Q:Option Value->Shared->Prop}
def rn(f:s.heap.get? a=some o)(hc:o.cls=.type "tuple")(i:o.data=.seq xs k)(hd:o.dict=none)(q:A.handled=none)
  (h:∀h' tk,(∀b j,s.heap.get? b=some j->h'.get? b=some j)->Q none {s with heap:=h',toks:=tk}) :
  wpAny (model prog w) A (getAttr? (.ref a) "keys") Q E s:=by
 obtain⟨c,r,t,u⟩:=o;simp only at hc i hd;subst hc i hd;obtain⟨hp,g,d,tk,v⟩:=s;have l:∀m,(⟨hp,g,d,m,v⟩:Shared).TypeIs (.ref a) "tuple":=λ_=>⟨_,f,rfl⟩
 have x:=sub_AttributeError;have y:=DG.lookup;have B:=DG.bind (.ref a);have C:=am_tuple_getattr_none;unfold getAttr? getAttrBy? getAttrBy
 repeat (any_goals (first | assumption | exact l _ | ((with_reducible show wpAny _ _ (call (Value.builtin "tuple.__getattribute__") _ _) _ _ _);refine mQ DG (l _) am_entry_tuple_getattribute (F.args_tuple_getattribute_2 _ _) (meets_getattribute_miss_tuple a xs k u "keys" _ F.vI (by decide +kernel) (by decide +kernel)) ⟨f,q,λh' m e p=>?_⟩) | wp_step))
 obtain⟨D,H,he⟩:=p.there;show wpAny _ _ (getattributeRaised _ _ _ _ _ _ _) _ _ _;unfold getattributeRaised
 repeat (any_goals (first | assumption | wp_step))
 exact h _ _ p.keeps
end
section
variable {prog:Program} {w:World} {A:Around} {E:Value->Shared->Prop} {s:Shared} {K:Type} [DecidableEq K] {knd:KeyKind prog w K}
def Ff(M:A.handled=none)(N:s.heap.get? l=some ol)(hc:ol.cls=.type "tuple")(R:ol.data=.seq items m)(x:ol.dict=none)
  (Y:∀(i:Nat) (v:Value),items[i]?=some v->∃b k a u,v=.ref b/\kvs[i]?=some (k,u)/\knd.is k a=true/\B9 s.heap b a u) (y:kvs.length=items.size) (p:items.size<=sizeLine)
  (h:∀(h':Heap) (tk:Nat),h'.DictOf knd s.heap.objs.size (merged [] kvs)->(∀b o,b<s.heap.objs.size->s.heap.get? b=some o->h'.get? b=some o)->Q (.ref s.heap.objs.size) {s with heap:=h',toks:=tk}) :
  wpAny (model prog w) A (call (.type "dict") [.ref l]) Q E s:=by
 refine callType_codes (Q₁:=λobj c=>obj=.ref s.heap.objs.size/\c={s with heap:=s.heap.push {cls:=.type "dict",data:=.dict #[]}}) F.kt_called_dict (F.kt_typeCall_dict_1 _) F.entry_dict_init (kt_code_dict_new _ ⟨rfl,rfl⟩) ?_
 rintro obj c ⟨rfl,rfl⟩
 have B:(s.heap.push {cls:=.type "dict",data:=.dict #[]}).DictOf knd s.heap.objs.size []:=Heap.DictOf.new s.heap
 have C:(s.heap.push {cls:=.type "dict",data:=.dict #[]}).get? l=some ol:=bj _ N
 have D:=bf N;refine⟨B.typeIs,F.args_dict_init_2 _ _,?_⟩;unfold Builtin.«dict.__init__»;refine ag ?_;unfold Builtin.Dict.selfAndRest;refine ag (DQ B.typeIs ?_);refine aj ?_;show wpAny _ _ (Builtin.Dict.updateFrom "dict.__init__" s.heap.objs.size (.ref l) [] .none) _ _ _;unfold Builtin.Dict.updateFrom;refine ag (pN ⟨ol,C,hc⟩ ?_);rw[if_pos (by decide)]
 refine ag (rn C hc R x (by simp[M]) λf Z q=>?_)
 rw[if_pos (show(none:Option Value).isNone=true from rfl)]
 have Za:=q l ol C;have T:f.DictOf knd s.heap.objs.size []:=by
  obtain⟨o,H,I,g,r⟩:=B;exact⟨o,H,I,q _ _ g,r⟩
 have j:f.IsTuple l items:=⟨ol,Za,hc,m,R⟩;refine ag (gz ?_);refine ag ?_;refine DW j ?_;refine aj ⟨yx F.c6 _,?_⟩;have d:s.heap.objs.size<f.objs.size:=by
  obtain⟨o,_,_,g,_⟩:=T;exact bf g
 have J:=bK (pP D d);have Fb:∀i (v:Value),items[i]?=some v->∃b k a u,v=.ref b/\kvs[i]?=some (k,u)/\knd.is k a=true/\b∉[s.heap.objs.size,f.objs.size]/\B9 s.heap b a u:=λi v hv=>by
  obtain⟨b,k,a,u,e1,e2,e3,X⟩:=Y i v hv;refine⟨b,k,a,u,e1,e2,e3,?_,X⟩;obtain⟨o,_,ho,_⟩:=X;have:=bf ho;simp only[aU,eE,e9,not_or];exact⟨bK this,bK (pP this d)⟩
 refine JC (knd:=knd) (s₀:=s) ((Walks.tuple (by simp[M]) f.objs.size l J items).toS) s.heap.objs.size (by grind) y p Fb (items.size-0) 0 _ (by lia) (dn _) ⟨⟨_,cx _ rfl,rfl,rfl⟩,j.push _⟩ (λb o _ e=>bj _ (q _ _ (bj _ e))) ?_ ?_
 ·obtain⟨o,H,I,g,r⟩:=T;exact⟨o,H,I,bj _ g,r⟩
 ·intro s' t L;obtain⟨h',g',d',O3,VU⟩:=s';have eg:g'=s.gens:=t.gens;have ed:d'=s.drawn:=t.drawn;have eo:VU=s.os:=t.os;subst eg;subst ed;subst eo;refine⟨rfl,h h' O3 L λb o p e=>?_⟩
  refine t.heap b o ?_ (bj _ (q _ _ (bj _ e)));simp only[aU,eE,e9,not_or];exact⟨bK p,bK (pP p d)⟩
end
end PySem
namespace L2.U
open PySem PySem.Spec PyProof.Rows
section
variable {X:Cx} {a b:Expr} {ta tb:TE} {p cp bp:Pos}
def qE(K:W.Frag)(H:Hp):List V->List (bE×V)->Prop:=Paired λv d=>∃c,v=.ref c/\iG K H c [kV d.1,d.2]
def oA(kvs:List (bE×V)):List (bE×V):=kvs.foldl (λc d=>putK c d.1 d.2) []
def abH(K:W.Frag):R2:=λx y H Q=>∃a b d e c,x=.ref a/\y=.ref b/\iG K H a d/\iG K H b e/\d≠[]/\e≠[]/\d.length+e.length<=1000/\qE K H (d++e) c/\∀p,H p=none->Q (.ref p) (cC H p (.dK (oA c)))
theorem Cc:∀{kvs:List (bE×V)} {vs:List (bE×Value)} {acc:List (bE×V)} {c:List (bE×Value)},L2.KV kvs vs->L2.KV acc c->L2.KV (kvs.foldl (λacc d=>putK acc d.1 d.2) acc) (vs.foldl (λacc d=>stored acc d.1 d.2) c)
 | _,_,_,_,.nil,h=>h
 | _,_,_,_,.cons (a:=x) r t,h=>by
  have e:=h.put x.1 r.2;rw[yq,yq];rw[r.1]at e ⊢;exact Cc (t) e
def MX(f:List (bE×V)):∀acc:List (bE×V),(f.foldl (λacc c=>putK acc c.1 c.2) acc).length<=acc.length+f.length:=by
 induction f with
 | nil=>intro acc;simp
 | cons x f ih =>
  intro acc;have:=ih (putK acc x.1 x.2);have:=G3 acc x.1 x.2;rw[yq,aN]
  lia
theorem Hm(I:Inv X M σ H s):∀{vs:List V} {kvs:List (bE×V)},qE X.K H vs kvs->∀{f:List Value},Vals vs f->∃g:List (bE×Value),L2.KV kvs g/\g.length=f.length/\∀(i:Nat) (u:Value),f[i]?=some u->∃b k d w,u=.ref b/\g[i]?=some (k,w)/\(cB X.prog X.w).is k d=true/\B9 s.heap b d w
 | _,_,.nil,f,r=>by
  cases r;exact⟨[],.nil,rfl,λi u h=>by cases h⟩
 | _,_,.cons (b:=j) q t,f,r=>by
  cases r with
  | cons m v =>
   obtain⟨g,x,y,B⟩:=Hm I t v;obtain⟨c,rfl,C⟩:=q;obtain⟨N,D,⟨o,E,J,n,L⟩,_⟩:=I.tuple C;obtain⟨d,w,e,hk,hw⟩:=D.two;subst e;cases m;refine⟨(j.1,w)::g,.cons ⟨rfl,hw⟩ x,by rw[aN,aN,y],λi u l=>?_⟩
   cases i with
   | zero =>
    cases l;exact⟨c,j.1,d,w,rfl,rfl,tP hk,o,n,E,J,L⟩
   | succ i=>exact B i u l
def RV(J:X.A.handled=none)(L:Gl X "dict")(M:X.mg "dict"=none)(N:PE X a ta)(R:PE X b tb)(B:starEach [.BinOp a .Add b bp] X.env=[(false,eval (.BinOp a .Add b bp) X.env)]):PE X (.Call (.Name "dict" p) [.BinOp a .Add b bp] [] cp) (Y5 (abH X.K) ta tb):=by
 intro ae s σ H Q I h;refine Call_ (ld_blt I L M (show bootBuiltins "dict"=some (.type "dict") by decide +kernel) (kA (Hl B (wpAny_BinOp (PF N R I h λv u j x y H2 d T Y q=>?_))) B rfl))
 obtain⟨t1,t2,xs,ys,l,rfl,rfl,Z,h2,h3,h4,h5,h6,q⟩:=q;cases T;cases Y;obtain⟨f,m,p1,_⟩:=d.tuple Z;obtain⟨g,r,p2,_⟩:=d.tuple h2;have hz:f.length+g.length<=1000:=by rw[<-m.length,<-r.length];exact h5
 have ahw:1000<=sizeLine:=by decide
 refine HT.GF p1 p2 (λz=>h3 (m.nM.mp z)) (λz=>absurd (r.nM.mp z) h4) (λz=>?_) (bA ‹_› ‹_›)
 obtain⟨Ze,C,D,g3⟩:=Hm d h6 (m.append r);obtain⟨RX,ajT⟩:=nw (j.heap.push {cls:=.type "tuple",data:=.seq (f++g).toArray})
 have hsz:(f++g).toArray.size=f.length+g.length:=by simp
 refine Ff (knd:=cB X.prog X.w) J (cx _ rfl) rfl rfl rfl (λi v E=>?_) (by rw[D];simp) (by grind) λh' tk dd kp=>?_
 ·rw[List.getElem?_toArray]at E;obtain⟨c,k,t,w,e1,e2,e3,o,n,e4,e5⟩:=g3 i v E;exact⟨c,k,t,w,e1,e2,e3,o,n,bj _ e4,e5⟩
 ·have hS:j.heap.objs.size<=(j.heap.push {cls:=.type "tuple",data:=.seq (f++g).toArray}).objs.size:=by simp_all
  have QE:=Cc C .nil;refine⟨.ref _,_,d.laid (λb u e=>kp b u (cb (bf e) hS) (bj _ e)) hS ?_,rfl,q _ (d.hok.fresh hS)⟩
  refine⟨?_,fV.mpr (dF (bK (cb (tQ d) hS))),_,QE,dd⟩;have:=MX l [];have e:=pK C;rw[aX]at D;unfold oA;simp only[yp]at this
  lia
end
def Hn:PV->Option (bE×PV)
 | .nd .aq [k,v]=>(BH k).map λj=>(j,v)
 | _=>none
def w6:List (bE×PV)->aw->aw
 | [],c=>c
 | (k,v)::r,c=>match c.k with
  | .fJ t ks=>w6 r (m4 t [k] v ks c.ps)
  | _=>c
def JD(ps:List PV):Option aw:=if ps.length<=1000 then(dj Hn ps).map λa=>w6 a ⟨.fJ false [],[]⟩else none
section
variable {K:W.Frag} {F:Fz}
theorem Cd:∀{ps:List PV} {kvs:List (bE×PV)} {vs:List V},dj Hn ps=some kvs->aG K F ps vs->∃ks:List (bE×V),qE K F.F vs ks/\ks.map (·.1)=kvs.map (·.1)/\aG K F (kvs.map (·.2)) (ks.map (·.2))
 | [],_,_,h,b=>by
  cases h;rw[b.c5];exact⟨[],.nil,rfl,.nil⟩
 | p::ps,kvs,vs,h,b=>by
  obtain⟨u,r,a,e,rfl⟩:=gC h;obtain⟨v,w,rfl,f,b2⟩:=b.cG;obtain⟨ks,g,i,l⟩:=Cd e b2;unfold Hn at a;split at a
  ·rename_i k q;obtain⟨j,e1,rfl⟩:=bt a;obtain⟨c,ws,rfl,d,m⟩:=cR.mp f;obtain⟨x,y,rfl,o,t⟩:=oe m;rw[ug e1 o]at d;exact⟨(j,y)::ks,.cons ⟨c,rfl,d⟩ g,by rw[aO,aO,i],.cons t l⟩
  ·cases a
theorem Ho:∀{kvs:List (bE×PV)} {ks:List (bE×V)} {acc:List (bE×V)} {ps:List PV},ks.map (·.1)=kvs.map (·.1)->aG K F (kvs.map (·.2)) (ks.map (·.2))->aG K F ps (acc.map (·.2)) ->
  ∃d f,w6 kvs ⟨.fJ false (acc.map λy=>[y.1]),ps⟩=⟨.fJ false d,f⟩/\(ks.foldl (λacc b=>putK acc b.1 b.2) acc).map (λy=>[y.1])=d/\aG K F f ((ks.foldl (λacc b=>putK acc b.1 b.2) acc).map (·.2))
 | [],ks,acc,ps,a,g,c=>by
  have:=List.map_eq_nil_iff.mp a;subst this;exact⟨_,_,rfl,rfl,c⟩
 | (k,q)::kvs,[],acc,ps,a,g,c=>by cases a
 | (k,q)::kvs,(j,v)::ks,acc,ps,a,g,c=>by
  simp only[aO,Ed]at a;obtain⟨rfl,a⟩:=a;obtain⟨u,w,e,l,b2⟩:=g.cG;cases e;obtain⟨d,f,e1,m,o⟩:=Mc l c;obtain⟨h,i,p,r,t⟩:=Ho a b2 o;refine⟨h,i,?_,r,t⟩;show w6 kvs (m4 false [j] q (acc.map λy=>[y.1]) ps)=_
  rw[e1,<-m];exact p
end
def RY{K:W.Frag}(h:JD ps=some c)(b:aG K F ps vs):∃ks:List (bE×V),qE K F.F vs ks/\ps.length<=1000/\∃a d,c=⟨.fJ false a,d⟩/\(oA ks).map (λy=>[y.1])=a/\aG K F d ((oA ks).map (·.2)):=by
 obtain⟨e,h⟩:=b9 h;obtain⟨f,g,rfl⟩:=bt h;obtain⟨ks,i,j,k⟩:=Cd g b;obtain⟨a,l,e1,m,o⟩:=Ho (acc:=[]) j k .nil;exact⟨ks,i,e,a,l,e1,m,o⟩
theorem qE.mono{K:W.Frag}(h:cV F G):∀{vs:List V} {ks:List (bE×V)},qE K F vs ks->qE K G vs ks
 | _,_,.nil=>.nil
 | _,_,.cons ⟨c,e,q⟩ t=>.cons ⟨c,e,bD h q⟩ (qE.mono h t)
def RZ:PV->Option (List PV)
 | .nd .aq a=>some a
 | _=>none
def afS(p q:PV):Gx PV:=λd=>(RZ p).bind λa=>(RZ q).bind λb=>if(a.isEmpty || b.isEmpty)=true then none else(JD (a++b)).bind λc=>mY c d
def Hq(a fb:Gx PV):Gx PV:=bnd a λp=>bnd fb λq=>afS p q
section
variable {X:Cx} {aa:Hp} {ab:Fz} {a b e:Expr} {fa fb fe:Gx PV} {p cp bp:Pos}
def Xl(o:X.A.handled=none)(t:Gl X "dict")(u:X.mg "dict"=none)(w:PE X a (tE X aa ab fa))(x:PE X b (tE X aa ab fb))(y:starEach [.BinOp a .Add b bp] X.env=[(false,eval (.BinOp a .Add b bp) X.env)]):PE X (.Call (.Name "dict" p) [.BinOp a .Add b bp] [] cp) (tE X aa ab (Hq fa fb)) :=
 (RV o t u w x y).imp λσ H Q ⟨F,st,R,h⟩=>⟨F,st,R,h.bnd λq v F1 B H1 C g1 D E=>⟨F1,B,C,E.bnd λI v2 F2 i H2 R2 J b2 L=>by
  obtain⟨r,e1,M⟩:=L;obtain⟨N,j,e1⟩:=aZ e1;obtain⟨T,k,e1⟩:=aZ e1;split at e1
  ·cases e1
  ·rename_i d;obtain⟨c,Y,e1⟩:=aZ e1;have Z:q=.aq N:=by
    unfold RZ at j;split at j
    ·grind
    ·cases j
   have t2:I=.aq T:=by
    unfold RZ at k;split at k
    ·grind
    ·cases k
   subst Z t2;obtain⟨a1,vs,rfl,l,f⟩:=cR.mp (D.mono J);obtain⟨a2,ws,rfl,OS,g⟩:=cR.mp b2;obtain⟨ks,k1,m,zf,DA,rfl,e6,e7⟩:=RY Y (f.append g);simp only[Ee,yk,not_or]at d;rw[aX]at m;refine⟨a1,a2,vs,ws,ks,rfl,rfl,bD R2.sub l,bD R2.sub OS,λz=>d.1 ?_,λz=>d.2 ?_,by rw[<-f.length,<-g.length];exact m,k1.mono R2.sub,λp hp=>?_⟩
   ·subst z;exact mz f.length
   ·subst z;exact mz g.length
   ·exact Tx.mY (show Tx X aa ab (bZ X.K) F2 i (mY ⟨.fJ false zf,DA⟩) σ Q from⟨r,e1,M⟩) R2 hp ⟨oA ks,aF,e6,rfl⟩ e7⟩⟩
end
noncomputable def Xm:List PV->Option (List Int)
 | [.int n]=>if 0<=n/\n<=1000 then some (rangeInts 0 1 n.toNat)else none
 | [.int a,.int b]=>if 0<=a/\a<=b/\b<=1000 then some (rangeInts a 1 (b-a).toNat)else none
 | _=>none
def MY(m:Nat)(ps:List PV):Gx PV:=λa=>match m with
 | 0=>some (.ok (.lst ps),a)
 | _=>mY ⟨.lst,ps⟩ a
def lrg(m:Nat)(a:Gx (List PV)):Gx PV:=bnd a λb=>bnd (lH (Xm b)) λl=>MY m (l.map .int)
def boot_range:bootBuiltins "range"=some (.type "range"):=by kernel_rfl
section
variable {X:Cx} {aa:Hp} {ab:Fz} {e:Expr} {es:List Expr} {ts:Gx (List PV)} {pos p Fc zp:Pos} {m:Nat}
def Tx.MY{st:cL}(h:Tx X aa ab (bZ X.K) F st (MY m ps) σ Q)(R:Rep X.K aa ab F st σ H)(a:H q=none)(b:aG X.K F ps vs):Q (.ref q) (cC H q (.lst vs)):=by
 cases m with
 | zero =>
  obtain⟨r,e1,d⟩:=h;cases e1;obtain⟨R2,c⟩:=R.laid (.lst vs) a;exact d _ _ _ R2 c (gH.mpr ⟨q,vs,rfl,lB.of aF,b.mono c⟩)
 | succ m=>exact Tx.mY (h) R a aF b
def Fg(h:ItemsOf (fun(i:Nat) (v:Value)=>∃t:Tok,v=Value.int (a+i*c) t) acc n):Vals ((rangeInts a c n).map V.int) acc.toList:=by
 have:∀l k,(∀j v,l[j]?=some v->∃t:Tok,v=Value.int (a+(k+j:Nat)*c) t)->Vals (((List.range' k l.length).map fun(i:Nat)=>a+i*c).map V.int) l:=by
  intro l;induction l with
  | nil=>intro k _;exact .nil
  | cons x l ih =>
   intro k d;obtain⟨t,ht⟩:=d 0 x rfl;rw[aN,List.range'_succ,aO,aO];refine .cons ⟨t,by rw[ht];rfl⟩ (ih (k+1) λj v b=>?_)
   have:=d (j+1) v (by simpa using b)
   rw[show k+(j+1)=k+1+j by lia]at this
   exact this
 have f:=this acc.toList 0 λj v b=>by
  rw[d8];exact h.2 j v (by rw[<-mG];exact b)
 rw[de,h.1,<-List.range_eq_range']at f;exact f
def abJ(hh:X.A.handled=none)(q:Gl X "list")(x:X.mg "list"=none)(hg:Gl X "range")(hm:X.mg "range"=none)(ha:PA X (e::es) (tA X aa ab ts))(hs:starEach (e::es) X.env=(false,eval e X.env)::starEach es X.env)(OS:(backTo Fc (starEach es X.env)).any (·.1)=false) :
  PE X (.Call (.Name "list" p) [.Call (.Name "range" zp) (e::es) [] Fc] [] pos) (tE X aa ab (lrg m ts)):=by
 rintro Z s σ H Q I ⟨F,st,Rp,h⟩
 refine kJ (ld_blt I q x (oj .list) ?_ (by decide) (by decide))
 refine kA (Hl rfl ?_) rfl rfl;have hA:=ha Fc Z s σ H (λy H'=>∃B aD g,Rep X.K aa ab B aD σ H'/\aG X.K B g y/\Tx X aa ab (bZ X.K) B aD (bnd (lH (Xm g)) λl=>MY m (l.map .int)) σ Q) I ⟨F,st,Rp,h.bnd λg y F1 bz H1 C g1 j d=>⟨F1,bz,g,C,j,d⟩⟩
 refine Call_ (ld_blt I hg hm boot_range (kA (thn hA λus s1 z9=>?_) hs OS))
 obtain⟨y,H1,I1,k,F1,bz,g,C,j,d⟩:=z9;obtain⟨D,i,d⟩:=At.lH (At.bnd d);have fin:∀r d f (a b c:Int) (t u v:Tok) (n:Nat),(∀b o,s1.heap.get? b=some o->d.get? b=some o)->IsRange d r a b c t u v->Builtin.Range.small a b c=true->Builtin.Range.rangeSize a b c=n->n<=3000->D=rangeInts a c n ->
   wpAny (model X.prog X.w) X.A (call (.type "list") [.ref r]) (EP X Z σ Q) X.xe {s1 with heap:=d,toks:=f}:=λr E f a b c t u v n hk hr J hn vh LO=>by
  refine call_list_range hh hr J hn (by lia) λh' tk L c' M hS vG=>?_
  have I2:=I1.kept (t':=f) hk;have hz:=I2.hok.fresh (au _);have hv:=Fg vG;rw[<-LO]at hv;refine⟨.ref E.objs.size,cC H1 E.objs.size (.lst (D.map V.int)),I2.laid M (au _) ⟨?_,L.toList,c',hv,hS⟩,rfl,Tx.MY d C hz (lK D)⟩;rw[ao,LO,rangeInts_length];exact bA vh (by decide)
 clear d;unfold Xm at i;split at i
 ·rename_i n;obtain⟨⟨h0,d⟩,e1⟩:=aR i;obtain⟨v,rfl,bv⟩:=dU j;rw[aH.mp bv]at k;obtain⟨u,rfl,ru⟩:=j9 k;obtain⟨tk0,rfl⟩:=ru;refine call_range_1 ?_;refine fin _ _ _ 0 n 1 _ _ _ n.toNat (λb o e=>bj _ e) (IsRange.new ..) ?_ ?_ (by lia) e1.symm
  ·exact small_one (by decide) (by decide) (by lia) (by lia)
  ·unfold Builtin.Range.rangeSize;rw[if_pos (by decide)]
   split<;>lia
 ·rename_i a b;obtain⟨⟨h0,d,E⟩,e1⟩:=aR i;obtain⟨v1,v2,rfl,N,R⟩:=oe j;rw[aH.mp N,aH.mp R]at k;obtain⟨u1,u2,rfl,T,Y⟩:=Tt k;obtain⟨k1,rfl⟩:=T;obtain⟨k2,rfl⟩:=Y;refine call_range_2 ?_;refine fin _ _ _ a b 1 _ _ _ (b-a).toNat (λb o e=>bj _ e) (IsRange.new ..) (small_one (by lia) (by lia) (by lia) (by lia)) (rangeSize_nat a b) (by lia) e1.symm
 ·cases i
end
section
variable {X:Cx}
def R0(a:Operator):Option G2:=Wu a
def MZ{a:Operator}{g:G2}(h:R0 a=some g):wJ X (binaryOp a) g:=by
 exact QW h
end
structure Gm where
 sc:List (Str×NameKind)
 N:List Str
 own:Bool
 fns:List (Str×Nat)
 call:Str->p8
 cons:List (Str×PV)
 dJ:List Str
 tabs:List (Str×List (Str×Str))
 cls:List (Str×Nat)
 make:Str->p8
 clss:List Str
 flds:List Str
 /-- what afV in a cell: 1 a list,2 a list of cells,10 a dict Te keys are tuples -/
 Zr:List (Str×Nat)
 vj:Option ((PV->Gx PV)->Nat->p8)
 zE:Option (Nat×(PV->Gx PV))
def slot(a:Gm)(x:Str):Option Nat:=a.N.findIdx? (· == x)
noncomputable def PC(a:Gm)(x:Str):Bool:=match a.sc.lookup x with | some .local=>true | some .cell=>true | some .free=>true | _=>false
noncomputable def Zf(a:Gm)(x:Str):Bool:=match a.sc.lookup x with | some .local=>true | some .cell=>a.own | _=>false
noncomputable def AN(a:Gm)(x:Str):Bool:=match a.sc.lookup x with | some .globalImplicit=>true | _=>false
noncomputable def jc(x:Str):Bool:=!(x==("__debug__":Str))&&!(x==("__classdict__":Str))&&!(x==("__name__":Str))
noncomputable def md(a:Gm)(x:Str):Nat:=(a.Zr.lookup x).getD 0
def JE(m:Nat):Nat:=if m<10 then m-1 else 0
def Xn(X:Cx)(k:Nat)(a:List (Str×Nat))(call:Str->p8):Prop:=∀x n,a.lookup x=some n->∃j f b c,j<=k/\FnOk X.prog X.w X.K X.mg X.base (jn X.prog X.w) j f b c (Ju X.K n (call x))/\X.mg x=some (.ref f)/\W.keepIn X.K (.ref f)=true/\gZ X.K b c []
structure M3 (Γ:Gm) (X:Cx) (rs:(PV->Gx PV)->Nat->p8):Prop where
 ex:∃(st:Stmt) (fs:Addr) (Uc:FuncData) (pr Ns:List Str) (k:Nat) (rb:(PV->Gx PV)->Nat->Gx dM),rs=(λω n=>er (rb ω n) Ns.length)/\Eg X.K "spread" "spread" st fs Uc/\X.mg "spread"=some (.ref fs)/\gZ X.K Uc pr []/\dP Ns pr (az st)/\pr.length=2/\dW (k+2) X.A /\
  (∀(c8:Value) (A:Around) (aB:List Env) (s:Shared) (H:Hp) (E:XK) (aa:Hp) (ab:Fz) (n:Nat) (ω:PV->Gx PV),dW (k+1) (A.deeper (envOfC "spread" (az st) s.heap.objs.size fs c8))->B2 (fP (jn X.prog X.w) X.prog X.w X.K X.mg X.base Ns "spread" (az st) fs c8 A aB s H E) aa ab n ω ->
   PSs (fP (jn X.prog X.w) X.prog X.w X.K X.mg X.base Ns "spread" (az st) fs c8 A aB s H E) (dz st) (tS (fP (jn X.prog X.w) X.prog X.w X.K X.mg X.base Ns "spread" (az st) fs c8 A aB s H E) aa ab (rb ω n))) /\
  Xn X k Γ.fns Γ.call
 lam:Ub X
structure GOk (Γ:Gm) (X:Cx) (aa:Hp) (ab:Fz):Prop where
 names:X.env.scope.names=Γ.sc
 N:X.N=Γ.N
 nd:X.N.Nodup
 kind:X.env.scope.kind=.function
 calm:X.calm=true
 hd:X.A.handled=none
 un:X.A.units+1150<cLine
 own:Γ.own=true->∀x,X.fn x=true
 fns:T9 X Γ.fns Γ.call
 cons:∀x p,Γ.cons.lookup x=some p->∃u v,X.mg x=some u/\RelV v u/\∀F,bZ X.K F p v
 dJ:∀x,Γ.dJ.contains x=true->X.mg x=none
 tabs:∀T rows,Γ.tabs.lookup T=some rows->Hd X.K X.mg X.w.params T rows
 ns:∀x a,W.nsIn X.K mainGlobals x=some (some (.ref a))->X.mg x=some (.ref a)
 Uh:ML X.K Γ.clss Γ.flds
 cls:∀C n,Γ.cls.lookup C=some n->∃k Ca f fd ps,ClsAt X.K C (.ref Ca)/\Ir X.K Ca/\Mk X.K Ca f/\FnOk X.prog X.w X.K X.mg X.base (jn X.prog X.w) k f fd ps (Ju X.K n (Γ.make C))/\dW (k+1) X.A/\X.mg C=some (.ref Ca)/\gZ X.K fd ps []
 vj:∀rs,Γ.vj=some rs->M3 Γ X rs
 zE:∀n ω,Γ.zE=some (n,ω)->B2 X aa ab n ω
def bG:Expr->Bool
 | .Starred _ _=>false
 | .Set _ _ _=>false
 | _=>true
def rO:Expr->Bool
 | .Slice _ _ _ _=>false
 | _=>true
def Hr:Expr->Bool
 | .Tuple _ _ _=>false
 | .ListComp _ _ _ _=>false
 | .SetComp _ _ _ _=>false
 | .DictComp _ _ _ _ _=>false
 | _=>true
def m8:Expr->Bool
 | .ListComp _ _ _ _=>false
 | .SetComp _ _ _ _=>false
 | .DictComp _ _ _ _ _=>false
 | _=>true
def zF:Expr->Bool
 | .Name _ _=>true
 | .Subscript _ _ _=>true
 | .Attribute _ _ _=>true
 | _=>false
def rP(h:zF e=true):attributeBase e f env (eval e env)=eval e env:=by
 cases e<;>first | rfl | cases h
def zG(h:Hr e=true):m8 e=true:=by
 cases e<;>first | rfl | cases h
def Fh:Expr->Bool
 | .UnaryOp .Not _ _=>false
 | .BoolOp _ _ _=>false
 | .IfExp _ _ _ _=>false
 | .Compare _ _ _ _=>false
 | _=>true
def bR(h:bG e=true)(b:List Expr)(a:Env):starEach (e::b) a=(false,eval e a)::starEach b a:=by
 cases e<;>first | rfl | cases h
def iO(h:bG e=true)(a:CmpOp):behindInMarks a e=false:=by
 cases e<;>first | rfl | cases h
def gE(h:bG e=true)(a:Env)(x:Value):foldedSetIterable e a x=pure x:=by
 cases e<;>first | rfl | cases h
def Cf(h:rO e=true):rF e:=by
 intro o i;cases e<;>first | rfl | cases h
def M6(h:Fh e=true)(b:Env)(c:Sem Value):isTrue e b c=(do let v <-c;standAt e.pos;holding [v] (truthy v)):=by
 cases e with
 | UnaryOp op a p=>cases op<;>first | rfl | cases h
 | BoolOp _ _ _=>cases h
 | IfExp _ _ _ _=>cases h
 | Compare _ _ _ _=>cases h
 | _=>rfl
def iQ(h:m8 e=true)(t:Option Expr)(l:Nat)(a:Env):swapsWith e t l a=pure false:=by
 cases e<;>first | rfl | cases h
def iR(h:a.all bG=true)(b:Env)(pos:Pos):(backTo pos (starEach a b)).any (·.1)=false:=by
 induction a with
 | nil=>rfl
 | cons e a ih =>
  rw[ip,aY]at h;rw[bR h.1];exact ih h.2
def Fi(h:a.all bG=true)(b:Env)(pos:Pos):(backTo pos (starEach a b)).all (λx=>!x.1)=true:=by
 induction a with
 | nil=>rfl
 | cons e a ih =>
  rw[ip,aY]at h;rw[bR h.1];exact ih h.2
def R6(h:a.all bG=true)(b:a.length<30):((backTo cp (starEach a env)).all (λx=>!x.1)&&(backToKw cp (keywordEach [] env)).all (λx=>x.1.isSome)
   && decide (a.length+([]:List Keyword).length+(if([]:List Keyword).isEmpty then 0 else 1)<30))=true:=by
 rw[Fi h];simp only[Bool.true_and,aY,kK];exact⟨rfl,b⟩
def lg(h:jc x=true):(x==("__debug__":Str))=false/\(x==("__classdict__":Str))=false/\x≠"__name__":=by
 unfold jc at h;simp only[aY,yh]at h;exact⟨h.1.1,h.1.2,by simpa using h.2⟩
noncomputable def zH:Nat->Gm->Expr->Option (Tg×List Nat)
 | 0,_,_=>none
 | n+1,b,e=>match e with
  | .Name x _=>if Zf b x=true then(slot b x).map λi=>(aW i,[i])else none
  | .Tuple c _ _=>(c.foldr (λe r=>(zH n b e).bind λg=>r.map λa=>(dX g.1 a.1,g.2++a.2)) (some (q8,[]))).map λa=>(jP c.length a.1,a.2)
  | _=>none
def M7(h:slot a x=some i):a.N[i]?=some x:=by
 unfold slot at h;obtain⟨b,hp,_⟩:=xQ.mp h;rw[b6 b];exact dq some (bh hp)
section
variable {Γ:Gm} {X:Cx} {x:Str} {pos:Pos} {aa:Hp} {ab:Fz}
def GOk.afW(G:GOk Γ X aa ab)(h:PC Γ x=true):ZA X.env.scope x:=by
 unfold PC at h;unfold ZA;rw[G.names];split at h<;>simp_all
def GOk.Xo(G:GOk Γ X aa ab)(h:Zf Γ x=true):Tj X.env.scope x/\(X.fn x=true\/X.env.scope.names.lookup x=some .local):=by
 unfold Zf at h;unfold Tj;rw[G.names];split at h
 ·grind
 ·rename_i z;exact⟨.inr z,.inl (G.own h x)⟩
 ·cases h
def GOk.lW(G:GOk Γ X aa ab)(h:AN Γ x=true):Gl X x:=by
 unfold AN at h;show X.env.scope.names.lookup x=_;rw[G.names];split at h
 ·assumption
 ·cases h
def GOk.uA(G:GOk Γ X aa ab)(h:slot Γ x=some i):X.N[i]?=some x:=by
 rw[G.N];exact M7 h
theorem lL(G:GOk Γ X aa ab):∀(n:Nat) (e:Expr) (g:Tg×List Nat),zH n Γ e=some g->PG X e (tG X.K aa ab g.1)/\KG g.2 g.1/\(∀a:Env,(assignEach [e] a).map (·.2)=[assign e a])/\∀(b:List Expr) (a:Env),assignEach (e::b) a=(false,assign e a)::assignEach b a
 | 0,_,_,h=>by cases h
 | n+1,e,g,h=>by
  cases e with
  | Name x p =>
   have h:=h;obtain⟨j,h⟩:=b9 h;obtain⟨i,z,rfl⟩:=bt h;obtain⟨l,m⟩:=G.Xo j;exact⟨Wq i (Px G.nd (G.uA z) l m),Ru i,λ_=>rfl,λ_ _=>rfl⟩
  | Tuple b k p =>
   have all:∀b c,b.foldr (λe r=>(zH n Γ e).bind λg=>r.map λc=>(dX g.1 c.1,g.2++c.2)) (some (q8,[]))=some c ->
     PGs X b (tGs X.K aa ab c.1)/\KGs c.2 c.1/\∀a:Env,(assignEach b a).length=b.length/\(assignEach b a).findIdx? (·.1)=none:=by
    intro b;induction b with
    | nil =>
     intro c h;cases h;exact⟨Wr,Rv,λa=>⟨rfl,rfl⟩⟩
    | cons e b ih =>
     intro c h;rw[List.foldr_cons]at h;obtain⟨o,e1,h⟩:=aZ h;obtain⟨q,z,rfl⟩:=bt h;obtain⟨t,u,y,v⟩:=lL G n e o e1;obtain⟨f,b2,d⟩:=ih q z;refine⟨QQ t f (by grind),Ml u b2,λa=>?_⟩
     rw[v];obtain⟨w,B⟩:=d a;exact⟨by rw[aN,aN,w],by grind⟩
   have h:=h;obtain⟨c,z,rfl⟩:=bt h;obtain⟨f,b2,d⟩:=all b c z;exact⟨aaM G.calm f (d _).1 (d _).2,WN b2,λ_=>rfl,λ_ _=>rfl⟩
  | _=>cases h
def w9(G:GOk Γ X aa ab)(a:jc x=true)(b:PC Γ x=true)(c:slot Γ x=some i):PE X (.Name x pos) (Pn i) :=
 pe_var (G.uA c) (G.afW b) (lg a).1 (lg a).2.1
end
def zI(x:Str):Option GC :=
 if x==("len":Str)then some gX
 else if x==("tuple":Str)then some Ja
 else if x==("int":Str)then some Jb
 else if x==("sum":Str)then some Jd
 else if x==("str":Str)then some Jc
 else if x==("sorted":Str)then some Hk
 else none
def M8:bootBuiltins "sum"=some (.builtin "sum"):=by kernel_rfl
set_option maxHeartbeats 4000000 in
theorem Xp(h:zI x=some g)(j:X.A.handled=none)(b:Gl X x)(c:X.mg x=none)(d:PA X (a::i) (tA X k l m))
  (he:starEach (a::i) X.env=(false,eval a X.env)::starEach i X.env) (f:(backTo pos (starEach i X.env)).any (·.1)=false):PE X (.Call (.Name x p) (a::i) [] pos) (tE X k l (gL g m)):=by
 unfold zI at h;split at h
 ·rename_i e;cases h;have e:=bh e;subst e;exact(nK Je b c PySem.boot_len d (by decide) (by decide) he f).imp λ_ _ _ h=>lI h
 ·split at h
  ·rename_i e;cases h;have e:=bh e;subst e;exact(pX Jf b c (oj .tuple) d (by decide) (by decide) he f).imp λ_ _ _ h=>lI h
  ·split at h
   ·rename_i e;cases h;have e:=bh e;subst e;exact(pX Jg b c (oj .int) d (by decide) (by decide) he f).imp λ_ _ _ h=>lI h
   ·split at h
    ·rename_i e;cases h;have e:=bh e;subst e;exact(nK (Ji j) b c M8 d (by decide) (by decide) he f).imp λ_ _ _ h=>lI h
    ·split at h
     ·rename_i e;cases h;have e:=bh e;subst e;exact(pX Jh b c (oj .str) d (by decide) (by decide) he f).imp λ_ _ _ h=>lI h
     ·split at h
      ·rename_i e;cases h;have e:=bh e;subst e;exact(nK Fd b c qD d (by decide) (by decide) he f).imp λ_ _ _ h=>lI h
      ·cases h
def zJ:ScopeKind->Bool
 | .function=>true
 | _=>false
noncomputable def xb(a:Scope):List Str:=(a.names.filter λy=>match y.2 with | .local=>true | .free=>true | _=>false).map (·.1)
def iB(b:Gm)(a:Scope):List (Option Nat):=(xb a).map λx=>match a.names.lookup x with | some .free=>slot b x | _=>none
noncomputable def Fj(b:Gm)(a:Scope):List (Str×NameKind):=a.names.map fun(n,k)=>if(k==NameKind.free&&b.sc.lookup n==some .cell)then(n,NameKind.cell)else(n,k)
def xc(b:Gm)(a:Scope):Gm:={b with sc:=Fj b a,N:=xb a,own:=false,vj:=none,zE:=none}
def uB(b:Gm)(a:Scope)(L:List Nat):Bool :=
 zJ a.kind&&a.names.all (λy=>match y.2 with
  | .cell=>false
  | .local=>(match a.names.lookup y.1 with | some .local=>true | _=>false)
  | .free=>(match b.sc.lookup y.1 with | some .cell=>true | some .free=>true | _=>false)
  | _=>true)&&decide (xb a).Nodup&&L.all λi=>match(iB b a)[i]? with | some none=>true | _=>false
noncomputable def rQ(a:Arguments):Option (Str×Pos):=match a.args with
 | [y]=>bif a.posonlyargs.isEmpty&&(a.vararg.isNone&&(a.kwonlyargs.isEmpty&&(a.kw_defaults.isEmpty&&(a.kwarg.isNone&&(a.defaults.isEmpty&&y.annotation.isNone)))))then some (y.arg,y.pos)else none
 | _=>none
def zK(h:rQ args=some a):args=oneArg a.1 a.2:=by
 obtain⟨b,as,c,d,e,kw,f⟩:=args;rcases as with _ | ⟨⟨x,an,ap⟩,_ | _⟩
 ·cases h
 ·cases b;rotate_left;cases h;cases c;rotate_left;cases h;cases d;rotate_left;cases h;cases e;rotate_left;cases h;cases kw;rotate_left;cases h;cases f;rotate_left;cases h;cases an;rotate_left;cases h;cases h;rfl
 ·cases h
noncomputable def isFree(k:Option NameKind):Bool:=match k with | some .free=>true | _=>false
def zL(a:Scope):List Str:=(a.names.filter λy=>isFree (some y.2)).map (·.1)
def rR(b:Gm)(a:Scope):List (Option Nat):=(zL a).map (slot b)
def abK(b:Gm)(x:Str)(a:Scope):Gm:={b with sc:=a.names,N:=x::zL a,own:=false,vj:=none,zE:=none,cls:=[]}
def M9(b:Gm)(x:Str)(a:Scope):Bool :=
 zJ a.kind&&!a.isCoroutine&&!a.isGenerator&&(match a.names.lookup x with | some .local=>true | _=>false)&&a.names.all (λy=>match y.2 with
  | .cell=>false
  | .free=>(match b.sc.lookup y.1 with | some .cell=>true | some .free=>true | _=>false)&&isFree (a.names.lookup y.1)
  | _=>true)&&decide (x::zL a).Nodup
section
variable {Γ:Gm} {X:Cx} {scope:Scope} {L:List Nat} {aa:Hp} {ab:Fz}
def oC(h:uB Γ scope L=true):scope.kind=.function/\(∀y∈scope.names,(match y.2 with
  | .cell=>false
  | .local=>(match scope.names.lookup y.1 with | some .local=>true | _=>false)
  | .free=>(match Γ.sc.lookup y.1 with | some .cell=>true | some .free=>true | _=>false)
  | _=>true)=true)/\(xb scope).Nodup/\∀i∈L,(iB Γ scope)[i]?=some none:=by
 unfold uB at h;simp only[aY,il,kK]at h;obtain⟨⟨⟨a,b⟩,c⟩,d⟩:=h;refine⟨?_,b,c,λi e=>?_⟩
 ·unfold zJ at a;split at a
  ·assumption
  ·cases a
 ·grind
def Fl(G:GOk Γ X aa ab)(h:uB Γ scope L=true):jq X (xb scope) (iB Γ scope) scope:=by
 obtain⟨c,d,f,g⟩:=oC h;refine⟨c,λy b z=>?_,λy b z=>?_,λy b z=>?_,by unfold iB;rw[ao],λi j x a e=>?_⟩
 ·grind
 ·grind
 ·have:=d y b;rw[z]at this;simp only at this;show X.env.scope.names.lookup y.1=_\/X.env.scope.names.lookup y.1=_;rw[G.names];split at this
  ·grind
  ·grind
  ·cases this
 ·unfold iB at a;rw[bP,e]at a;have a:(match scope.names.lookup x with | some .free=>slot Γ x | _=>none)=some j:=by grind
  split at a
  ·exact⟨G.uA a,by assumption⟩
  ·cases a
def Na(G:GOk Γ X aa ab)(h:uB Γ scope L=true)(C:Addr)(s:Shared)(H:Hp)(a:List Addr)(b:Hp)(c:Fz):GOk (xc Γ scope) (cW X (xb scope) scope C s H a) b c where
 names:=by
  show(relabel scope X.env).names=Fj Γ scope;have e:∀n,X.env.kindOf n=Γ.sc.lookup n:=λn=>by show X.env.scope.names.lookup n=_;rw[G.names]
  unfold Fj relabel;simp only[G.kind,e]
  congr 1
  funext y
  obtain⟨n,k⟩:=y;simp
 N:=rfl
 nd:=(oC h).2.2.1
 kind:=by
  exact(oC h).1
 calm:=G.calm
 hd:=G.hd
 un:=G.un
 own:=λz=>by cases z
 fns:=G.fns
 cons:=G.cons
 dJ:=G.dJ
 tabs:=G.tabs
 ns:=G.ns
 Uh:=G.Uh
 cls:=G.cls
 vj:=λ_ z=>by cases z
 zE:=λ_ _ z=>by cases z
def Nb{i:Nat}(h:(zL scope)[i]?=some y):(y,NameKind.free)∈scope.names:=by
 have a:=dc h;unfold zL at a;obtain⟨z,b,rfl⟩:=aE.mp a;obtain⟨c,d⟩:=cU.mp b;obtain⟨n,k⟩:=z;cases k<;>first | exact c | cases d
def JF(h:isFree k=true):k=some .free:=by
 unfold isFree at h;split at h
 ·rfl
 ·cases h
def JG{x:Str}(G:GOk Γ X aa ab)(h:M9 Γ x scope=true):uq X x (zL scope) (rR Γ scope) scope/\(x::zL scope).Nodup:=by
 unfold M9 at h;simp only[aY]at h;obtain⟨⟨⟨⟨⟨a,k⟩,l⟩,m⟩,e⟩,f⟩:=h;have b:=il.mp e;refine⟨⟨?_,by grind,by grind,?_,λy c z=>?_,λy c z=>?_,?_,λi j y e1 d=>?_⟩,dw f⟩
 ·unfold zJ at a;split at a
  ·assumption
  ·cases a
 ·grind
 ·grind
 ·have:=b y c;rw[z]at this;simp only[aY]at this;have hk:X.env.kindOf y.1=Γ.sc.lookup y.1:=by show X.env.scope.names.lookup y.1=_;rw[G.names]
  rw[hk];have t:=this.1;split at t
  ·grind
  ·grind
  ·cases t
 ·unfold rR;rw[ao]
 ·have g:=Nb d;have:=b _ g;simp only[aY]at this;refine⟨?_,JF this.2⟩;unfold rR at e1;rw[bP,d]at e1;exact G.uA (cD e1)
def R7(G:GOk Γ X aa ab)(hk:scope.kind=.function)(b:(x::zL scope).Nodup)(c:Xn X k Γ.fns Γ.call)
  {stack:List Env} (a:dW k (A.deeper (W.envX qual scope s.heap.objs.size d g cl))) (h:Hp) (i:Fz) :
  GOk (abK Γ x scope) (TM (jn X.prog X.w) X.prog X.w X.K X.mg X.base (x::zL scope) qual scope d g cl A stack s H E) h i where
 names:=rfl
 N:=rfl
 nd:=b
 kind:=hk
 calm:=rfl
 hd:=a.hd
 un:=by
  have:=a.un;show(A.deeper _).units+1150<cLine
  lia
 own:=λz=>by cases z
 fns:=λy n e=>let ⟨j,f,fd,l,m,o,p,q,r⟩:=c y n e;⟨j,f,fd,l,o,a.mono m,p,q,r⟩
 cons:=G.cons
 dJ:=G.dJ
 tabs:=G.tabs
 ns:=G.ns
 Uh:=G.Uh
 cls:=λ_ _ z=>by cases z
 vj:=λ_ z=>by cases z
 zE:=λ_ _ z=>by cases z
end
def cK{a:Type}:Gx a:=λ_=>none
section
variable {X:Cx} {aa:Hp} {ab:Fz} {e:Expr} {es:List Expr}
def xf{C:Prop}(h:tX X aa ab a cK σ H Q):C:=by
 obtain⟨F,b,R,r,z,_⟩:=h;cases z
def br:PE X e (tE X aa ab cK):=λ_ _ _ _ _ _ h=>xf h
def xg:PT X e (tT X aa ab cK):=λ_ _ _ _ _ _ h=>xf h
def Nc:PW X e (tT X aa ab cK):=λ_ _ _ _ _ _ _ h=>xf h
def Ui:PA X es (tA X aa ab cK):=λ_ _ _ _ _ _ _ h=>xf h
def Uj{a:Expr}:PI X a e (Ku X aa ab cK):=λ_ _ _ _ _ _ h=>xf h
end
def bJ(m n:Nat)(g:p8)(as:List PV):Gx PV:=λa=>if((m==0)&&(a.h.isEmpty || ai as))=true then qa n g as a else E2 n g as a
def afX(G:FnOk X.prog X.w X.K X.mg X.base (jn X.prog X.w) k f fd ps (Ju X.K n g))(a:dW k X.A)(c:gZ X.K fd ps []):RG X f (bJ m n g):=by
 rintro d H e F st σ h s Q as us i I R b r ⟨q,e1,j⟩
 unfold bJ at e1;split at e1
 ·exact abf G a c d H e F st σ h s Q as us i I R b r ⟨q,e1,j⟩
 ·exact afq G a c d H e F st σ h s Q as us i I R b r ⟨q,e1,j⟩
def abL(a:Gm):Expr->Nat
 | .Name x _=>JE (md a x)
 | .Attribute _ f _=>JE (md a f)
 | _=>0
def zM(e:Expr):Option {x:Option Expr×Option Expr // ∃p,e=.Slice x.1 x.2 none p}:=match e with
 | .Slice lo a none p=>some ⟨(lo,a),p,rfl⟩
 | _=>none
def afY:Const->Gx PV
 | .int i=>bg (.int i)
 | .bool i=>bg (.bl i)
 | .none=>bg .bM
 | .str i=>bg (.str i)
 | _=>cK
def Xq(a:Gm)(x:Str):Gx PV:=if jc x=true then(if PC a x=true then(match slot a x with | some i=>rd i | none=>cK)else if AN a x=true then(match a.cons.lookup x with | some p=>bg p | none=>cK)else cK)else cK
noncomputable def Fm(a:Expr):Option {x:Str×Expr×List Expr // ∃p q,a=.Call (.Name x.1 p) (x.2.1::x.2.2) [] q}:=match a with
 | .Call (.Name z p) (b::bs) [] q=>some ⟨(z,b,bs),p,q,rfl⟩
 | _=>none
noncomputable def zN(a:Expr)(b:List Expr):Option {x:Str×Expr // b=[]/\∃p q,a=.Call (.Name x.1 p) [x.2] [] q}:=match a,b with
 | .Call (.Name z p) [e] [] q,[]=>some ⟨(z,e),rfl,p,q,rfl⟩
 | _,_=>none
def kc(a:Gm)(x:Str):Bool:=AN a x&&a.dJ.contains x
mutual
noncomputable def bY:Nat->Gm->Nat->Expr->Gx PV
 | 0,_,_,_=>cK
 | n+1,d,m,e=>match e with
  | .Constant c _ _=>afY c
  | .Name x _=>Xq d x
  | .BinOp a op b _=>(match R0 op with | some g=>op2 g (bY n d 0 a) (bY n d 0 b) | none=>cK)
  | .UnaryOp .Not a _=>QN (bY n d 0 a)
  | .UnaryOp .USub a _=>za (bY n d 0 a)
  | .BoolOp op i _=>Nd n d op i
  | .Compare a ops bs _=>Xr n d a ops bs
  | .IfExp c a b _=>eH (vJ n d c) (bY n d m a) (bY n d m b)
  | .Tuple h _ _=>mX .aq (m9 n d m h)
  | .List h _=>(match m with | 0=>mX .lst (m9 n d 0 h) | _=>yW (m9 n d (JE m) h))
  | .Dict [] [] _=>MI (m==10)
  | .Subscript a b _=>Xs n d a b
  | .ListComp elt gens scope _=>Xu n d m elt gens scope
  | .Attribute o f _=>if zF o=true then W7 f (bY n d 0 o)else cK
  | .Call f (a::h) [] cp=>if(a::h).all bG=true then Xv n d m f a h cp else cK
  | .Call (.Attribute o f ap) [] [] cp=>if(zF o&&(ap.endLine==cp.line))=true then(if f==("isdigit":Str)then Xj (bY n d 0 o)else match E4 f with | some w=>E3 w.1 w.2 (bY n d 0 o) (bg []) | none=>cK)else cK
  | _=>cK
termination_by structural n=>n
noncomputable def Xv:Nat->Gm->Nat->Expr->Expr->List Expr->Pos->Gx PV
 | 0,_,_,_,_,_,_=>cK
 | n+1,b,m,f,a,c,cp=>match f with
  | .Name x _=>if jc x=true then(if AN b x=true then Xw n b m x a c else if PC b x=true then Nf n b x a c else cK)else cK
  | .Subscript v k p=>BZ b.fns b.call (bY n b 0 (.Subscript v k p)) (m9 n b 0 (a::c))
  | .Attribute o g ap=>if(zF o&&(ap.endLine==cp.line)&&decide ((a::c).length<30))=true then(match Hc g with | some w=>E3 w.1 w.2 (bY n b 0 o) (m9 n b (abL b o) (a::c)) | none=>cK)else cK
  | _=>cK
termination_by structural n=>n
noncomputable def Nf:Nat->Gm->Str->Expr->List Expr->Gx PV
 | 0,_,_,_,_=>cK
 | n+1,b,x,a,c=>match c,slot b x,b.zE with
  | [],some i,some o=>MM i o.1 o.2 (bY n b 0 a)
  | _,_,_=>cK
termination_by structural n=>n
noncomputable def Xw:Nat->Gm->Nat->Str->Expr->List Expr->Gx PV
 | 0,_,_,_,_,_=>cK
 | n+1,b,m,x,a,c=>if x==("spread":Str)then Ng n b a c else match b.fns.lookup x with
  | some k=>bnd (m9 n b 0 (a::c)) (bJ m k (b.call x))
  | none=>match b.cls.lookup x with
   | some k=>(match m with | 0=>mkP x k (b.make x) (m9 n b 0 (a::c)) | _=>cK)
   | none=>if b.dJ.contains x=true then(if x==("isinstance":Str)then Nh n b a c else if(x==("sorted":Str)&&(zN a c).isSome)=true then Ni n b a c else if x==("dict":Str)then Xx n b a c else if x==("list":Str)then Nj n b m a c else match zI x with | some g=>gL g (m9 n b 0 (a::c)) | none=>cK)else cK
termination_by structural n=>n
noncomputable def Ng:Nat->Gm->Expr->List Expr->Gx PV
 | 0,_,_,_=>cK
 | n+1,b,a,d=>match d with
  | [.Lambda args body scope _]=>(match b.vj,rQ args with
   | some rs,some c=>if M9 b c.1 scope=true then Jy rs (bY n b 0 a) (bY n (abK b c.1 scope) 0 body) (rR b scope)else cK
   | _,_=>cK)
  | _=>cK
termination_by structural n=>n
noncomputable def Nj:Nat->Gm->Nat->Expr->List Expr->Gx PV
 | 0,_,_,_,_=>cK
 | n+1,b,m,a,c=>match c with
  | []=>(match Fm a with
   | some ⟨zs,_⟩=>if(zs.1==("range":Str)&&kc b zs.1&&(zs.2.1::zs.2.2).all bG)=true then lrg m (m9 n b 0 (zs.2.1::zs.2.2))else cK
   | none=>cK)
  | _=>cK
termination_by structural n=>n
noncomputable def Xx:Nat->Gm->Expr->List Expr->Gx PV
 | 0,_,_,_=>cK
 | n+1,b,a,c=>match c with
  | []=>(match a with
   | .BinOp l .Add r _=>Hq (bY n b 0 l) (bY n b 0 r)
   | _=>cK)
  | _=>cK
termination_by structural n=>n
noncomputable def Ni:Nat->Gm->Expr->List Expr->Gx PV
 | 0,_,_,_=>cK
 | n+1,c,a,d=>match zN a d with
  | some ⟨b,_⟩=>if(b.1==("set":Str)&&kc c b.1&&bG b.2)=true then MW (bY n c 0 b.2)else cK
  | none=>cK
termination_by structural n=>n
noncomputable def Nh:Nat->Gm->Expr->List Expr->Gx PV
 | 0,_,_,_=>cK
 | n+1,b,a,c=>match c with
  | [.Name t _]=>if kc b t=true then(match GZ t with | some g=>isV g (bY n b 0 a) | none=>cK)else cK
  | _=>cK
termination_by structural n=>n
noncomputable def Xr:Nat->Gm->Expr->List CmpOp->List Expr->Gx PV
 | 0,_,_,_,_=>cK
 | n+1,d,a,ops,bs=>match ops,bs with
  | [op],[b]=>if bG b=true then(match EU op with | some g=>op2 g (bY n d 0 a) (bY n d 0 b) | none=>cK)else cK
  | [op,e],[b,c]=>if bG c=true then(match EU op,EU e with | some g,some f=>chain g f (bY n d 0 a) (bY n d 0 b) (bY n d 0 c) | _,_=>cK)else cK
  | _,_=>cK
termination_by structural n=>n
noncomputable def Xs:Nat->Gm->Expr->Expr->Gx PV
 | 0,_,_,_=>cK
 | n+1,c,a,b=>match zM b with
  | some ⟨d,_⟩=>cutE (bY n c 0 a) (R8 n c d.1) (R8 n c d.2)
  | none=>if rO b=true then(match a with
   | .Name T p=>if(jc T&&AN c T)=true then(match c.tabs.lookup T with
    | some rows=>MJ (λk=>(rows.lookup k).map .fn) (bY n c 0 b)
    | none=>op2 bO (bY n c 0 (.Name T p)) (bY n c 0 b))else op2 bO (bY n c 0 (.Name T p)) (bY n c 0 b)
   | a=>op2 bO (bY n c 0 a) (bY n c 0 b))else cK
termination_by structural n=>n
noncomputable def vJ:Nat->Gm->Expr->Gx Bool
 | 0,_,_=>cK
 | n+1,d,e=>match e with
  | .UnaryOp .Not a _=>ER (vJ n d a)
  | .BoolOp op f _=>Nk n d op f
  | .Compare a [op] [b] _=>if bG b=true then(match EU op with | some g=>toB (op2 g (bY n d 0 a) (bY n d 0 b)) | none=>cK)else cK
  | .Compare a [op,h] [b,c] _=>if bG c=true then(match EU op,EU h with | some g,some i=>toB (chain g i (bY n d 0 a) (bY n d 0 b) (bY n d 0 c)) | _,_=>cK)else cK
  | e=>if Fh e=true then iu (bY n d 0 e)else cK
termination_by structural n=>n
noncomputable def Nd:Nat->Gm->BoolOp->List Expr->Gx PV
 | 0,_,_,_=>cK
 | n+1,c,op,[a]=>bY n c 0 a
 | n+1,c,.And,a::b::r=>IY (bY n c 0 a) (Nd n c .And (b::r))
 | n+1,c,.Or,a::b::r=>orG (bY n c 0 a) (Nd n c .Or (b::r))
 | _,_,_,_=>cK
termination_by structural n=>n
noncomputable def Nk:Nat->Gm->BoolOp->List Expr->Gx Bool
 | 0,_,_,_=>cK
 | n+1,c,op,[a]=>vJ n c a
 | n+1,c,.And,a::b::r=>eH (vJ n c a) (Nk n c .And (b::r)) (bg false)
 | n+1,c,.Or,a::b::r=>eH (vJ n c a) (bg true) (Nk n c .Or (b::r))
 | _,_,_,_=>cK
termination_by structural n=>n
noncomputable def m9:Nat->Gm->Nat->List Expr->Gx (List PV)
 | 0,_,_,_=>cK
 | n+1,a,m,[]=>bg []
 | n+1,a,m,e::b=>if bG e=true then ay (bY n a m e) (m9 n a m b)else cK
termination_by structural n=>n
noncomputable def R8:Nat->Gm->Option Expr->Gx (Option Int)
 | 0,_,_=>cK
 | n+1,a,none=>bg none
 | n+1,a,some e=>wN (bY n a 0 e)
termination_by structural n=>n
noncomputable def Nl:Nat->Gm->Expr->Expr->Gx AM
 | 0,_,_,_=>cK
 | n+1,c,d,e=>match e with
  | .Call (.Name x p) [a] [] cp=>if(x==("range":Str)&&kc c x&&bG a)=true then Jq (vy zq (m9 n c 0 [a]))
    else if(x==("enumerate":Str)&&kc c x&&bG a&&T2 d)=true then Jq (wW (bY n c 0 a))
    else jr (bY n c 0 (.Call (.Name x p) [a] [] cp))
  | .Call (.Name x p) [a,b] [] cp=>if(x==("range":Str)&&kc c x&&bG a&&bG b)=true then Jq (vy WO (m9 n c 0 [a,b]))
    else jr (bY n c 0 (.Call (.Name x p) [a,b] [] cp))
  | e=>if bG e=true then jr (bY n c 0 e)else cK
termination_by structural n=>n
noncomputable def Xu:Nat->Gm->Nat->Expr->List Comprehension->Scope->Gx PV
 | 0,_,_,_,_,_=>cK
 | n+1,a,m,elt,gens,scope=>match gens with
  | [⟨b,iter,ifs,0⟩]=>if bG iter=true then(match zH n (xc a scope) b with
   | some g=>if uB a scope g.2=true then(match ifs with
    | []=>dH (m != 0) (iB a scope) (Nl n a b iter) (lU g.1 (bY n (xc a scope) (JE m) elt))
    | [c]=>dH (m != 0) (iB a scope) (Nl n a b iter) (oo g.1 (vJ n (xc a scope) c) (bY n (xc a scope) (JE m) elt))
    | _=>cK)else cK
   | none=>cK)else cK
  | _=>cK
termination_by structural n=>n
end
def CC(X:Cx)(d:Hp)(e:Fz)(c:Expr)(b:List Comprehension)(a:Scope)(p:Pos)(f:Gx PV):Prop:=PE X (.ListComp c b a p) (tE X d e f) /\
  ∀i x g h,X.N[i]?=some x->X.env.scope.names.lookup x=some .local->swapsWith (.ListComp c b a p) (some (.Name x g)) h.line X.env=pure true ->
   PS X (.Assign [.Name x g] (.ListComp c b a p) h) (tS X d e (di f (aW i)))
structure Snd (n:Nat):Prop where
 e:∀Γ X aa ab m e,GOk Γ X aa ab->PE X e (tE X aa ab (bY n Γ m e))
 f:∀Γ X aa ab m f a es cp,GOk Γ X aa ab->(a::es).all bG=true->PE X (.Call f (a::es) [] cp) (tE X aa ab (Xv n Γ m f a es cp))
 o:∀Γ X aa ab x a es p cp,GOk Γ X aa ab->(a::es).all bG=true->jc x=true->PC Γ x=true->PE X (.Call (.Name x p) (a::es) [] cp) (tE X aa ab (Nf n Γ x a es))
 cn:∀Γ X aa ab m x a es p cp,GOk Γ X aa ab->(a::es).all bG=true->jc x=true->AN Γ x=true->PE X (.Call (.Name x p) (a::es) [] cp) (tE X aa ab (Xw n Γ m x a es))
 sp:∀Γ X aa ab a es p cp,GOk Γ X aa ab->(a::es).all bG=true->AN Γ "spread"=true->PE X (.Call (.Name "spread" p) (a::es) [] cp) (tE X aa ab (Ng n Γ a es))
 st:∀Γ X aa ab a es p cp,GOk Γ X aa ab->(a::es).all bG=true->AN Γ "sorted"=true->Γ.dJ.contains "sorted"=true->PE X (.Call (.Name "sorted" p) (a::es) [] cp) (tE X aa ab (Ni n Γ a es))
 d:∀Γ X aa ab a es p cp,GOk Γ X aa ab->(a::es).all bG=true->AN Γ "dict"=true->Γ.dJ.contains "dict"=true->PE X (.Call (.Name "dict" p) (a::es) [] cp) (tE X aa ab (Xx n Γ a es))
 li:∀Γ X aa ab m a es p cp,GOk Γ X aa ab->(a::es).all bG=true->AN Γ "list"=true->Γ.dJ.contains "list"=true->PE X (.Call (.Name "list" p) (a::es) [] cp) (tE X aa ab (Nj n Γ m a es))
 is:∀Γ X aa ab a es p cp,GOk Γ X aa ab->(a::es).all bG=true->AN Γ "isinstance"=true->Γ.dJ.contains "isinstance"=true->PE X (.Call (.Name "isinstance" p) (a::es) [] cp) (tE X aa ab (Nh n Γ a es))
 k:∀Γ X aa ab a ops bs p,GOk Γ X aa ab->PE X (.Compare a ops bs p) (tE X aa ab (Xr n Γ a ops bs))
 x:∀Γ X aa ab a b p,GOk Γ X aa ab->PE X (.Subscript a b p) (tE X aa ab (Xs n Γ a b))
 t:∀Γ X aa ab e,GOk Γ X aa ab->PT X e (tT X aa ab (vJ n Γ e))
 b:∀Γ X aa ab op vs p,GOk Γ X aa ab->PE X (.BoolOp op vs p) (tE X aa ab (Nd n Γ op vs))
 w:∀Γ X aa ab op vs p,GOk Γ X aa ab->PW X (.BoolOp op vs p) (tT X aa ab (Nk n Γ op vs))
 a:∀Γ X aa ab m es,GOk Γ X aa ab->PA X es (tA X aa ab (m9 n Γ m es))
 l:∀Γ X aa ab e,GOk Γ X aa ab->PO X e (WA X aa ab (R8 n Γ e))
 i:∀Γ X aa ab tg e,GOk Γ X aa ab->PI X tg e (Ku X aa ab (Nl n Γ tg e))
 c:∀Γ X aa ab m elt gens scope p,GOk Γ X aa ab->CC X aa ab elt gens scope p (Xu n Γ m elt gens scope)
def pI{X:Cx}{a:Hp}{b:Fz}{e:Expr}{c:Prop} [Decidable c] {f g:Gx PV} (h:c->PE X e (tE X a b f)) (h':PE X e (tE X a b g)):PE X e (tE X a b (if c then f else g)):=by
 split
 ·exact h ‹_›
 ·exact h'
def pJ{X:Cx}{a:Hp}{b:Fz}{e:Expr}{c:Prop} [Decidable c] {f:Gx PV} (h:c->PE X e (tE X a b f)):PE X e (tE X a b (if c then f else cK)):=pI h br
def jv:PS X s (tS X a b cK):=λ_ _ _ _ _ _ ⟨F,st,R,r,z,_⟩=>by cases z
def zO:PS X s (tS X a b (di cK g)):=λ_ _ _ _ _ _ ⟨F,st,R,r,z,_⟩=>by cases z
def abM{a:Fz}:PO X e (WA X b a cK):=λ_ _ _ _ _ _ h=>xf h
def Nm:Snd 0 where
 e:=λ_ _ _ _ _ _ _=>br
 f:=λ_ _ _ _ _ _ _ _ _ _ _=>br
 o:=λ_ _ _ _ _ _ _ _ _ _ _ _ _=>br
 cn:=λ_ _ _ _ _ _ _ _ _ _ _ _ _ _=>br
 sp:=λ_ _ _ _ _ _ _ _ _ _ _=>br
 st:=λ_ _ _ _ _ _ _ _ _ _ _ _=>br
 d:=λ_ _ _ _ _ _ _ _ _ _ _ _=>br
 li:=λ_ _ _ _ _ _ _ _ _ _ _ _ _=>br
 is:=λ_ _ _ _ _ _ _ _ _ _ _ _=>br
 k:=λ_ _ _ _ _ _ _ _ _=>br
 x:=λ_ _ _ _ _ _ _ _=>br
 t:=λ_ _ _ _ _ _=>xg
 b:=λ_ _ _ _ _ _ _ _=>br
 w:=λ_ _ _ _ _ _ _ _=>Nc
 a:=λ_ _ _ _ _ _ _=>Ui
 l:=λ_ _ _ _ _ _=>abM
 i:=λ_ _ _ _ _ _ _=>Uj
 c:=λ_ _ _ _ _ _ _ _ _ _=>⟨br,λ_ _ _ _ _ _ _=>zO⟩
section
variable {n:Nat} (S:Snd n)
include S
def abN(c:Gm)(X:Cx)(d:Hp)(f:Fz)(g:BoolOp)(vs:List Expr)(p:Pos)(G:GOk c X d f):PE X (.BoolOp g vs p) (tE X d f (Nd (n+1) c g vs)):=by
 match g,vs with
 | .And,[]=>exact br
 | .Or,[]=>exact br
 | .And,[a]=>exact Le (S.e c X d f 0 a G)
 | .Or,[a]=>exact Le (S.e c X d f 0 a G)
 | .And,a::b::r=>exact aaF (S.e c X d f 0 a G) (S.b c X d f .And (b::r) p G)
 | .Or,a::b::r=>exact ae4 (S.e c X d f 0 a G) (S.b c X d f .Or (b::r) p G)
def abO(c:Gm)(X:Cx)(d:Hp)(e:Fz)(f:BoolOp)(vs:List Expr)(p:Pos)(G:GOk c X d e):PW X (.BoolOp f vs p) (tT X d e (Nk (n+1) c f vs)):=by
 match f,vs with
 | .And,[]=>exact Nc
 | .Or,[]=>exact Nc
 | .And,[a]=>exact Pp (S.t c X d e a G)
 | .Or,[a]=>exact Vr (S.t c X d e a G)
 | .And,a::b::r=>exact aaD (S.t c X d e a G) (S.w c X d e .And (b::r) p G)
 | .Or,a::b::r=>exact ae3 (S.t c X d e a G) (S.w c X d e .Or (b::r) p G)
def abP(c:Gm)(X:Cx)(d:Hp)(f:Fz)(m:Nat)(b:List Expr)(G:GOk c X d f):PA X b (tA X d f (m9 (n+1) c m b)):=by
 match b with
 | []=>exact aaH
 | e::b =>
  unfold m9;split
  ·rename_i hp;exact Wh (S.e c X d f m e G) (S.a c X d f m b G) (bR hp _ _)
  ·exact Ui
def abQ(a:Gm)(X:Cx)(b:Hp)(c:Fz)(e:Option Expr)(G:GOk a X b c):PO X e (WA X b c (R8 (n+1) a e)):=by
 match e with
 | none=>exact WB
 | some e=>exact WC (S.e a X b c 0 e G)
def abR(h:Gm)(X:Cx)(d:Hp)(f:Fz)(a:Expr)(i:List CmpOp)(bs:List Expr)(p:Pos)(G:GOk h X d f):PE X (.Compare a i bs p) (tE X d f (Xr (n+1) h a i bs)):=by
 rcases i with _ | ⟨op,_ | ⟨l,_ | _⟩⟩<;>rcases bs with _ | ⟨b,_ | ⟨c,_ | _⟩⟩<;>try exact br
 ·show PE X _ (tE X d f (ite _ _ _));split
  ·rename_i hp;split
   ·rename_i g j;exact aaA (lJ G.un j) (S.e h X d f 0 _ G) (S.e h X d f 0 _ G) (iO hp _)
   ·exact br
  ·exact br
 ·show PE X _ (tE X d f (ite _ _ _));split
  ·rename_i hp;split
   ·rename_i g m j k;exact QL (lJ G.un j) (lJ G.un k) (S.e h X d f 0 _ G) (S.e h X d f 0 _ G) (S.e h X d f 0 _ G) (iO hp _)
   ·exact br
  ·exact br
def abS(h:Gm)(X:Cx)(d:Hp)(f:Fz)(e:Expr)(G:GOk h X d f):PT X e (tT X d f (vJ (n+1) h e)):=by
 have i:∀e,PT X e (tT X d f (if Fh e=true then iu (bY n h 0 e)else cK)):=λe=>by
  split
  ·rename_i hp;exact aaC (S.e h X d f 0 _ G) λk=>M6 hp _ k
  ·exact xg
 cases e with
 | UnaryOp op=>cases op with
  | Not=>exact aaE (S.t h X d f _ G)
  | _=>exact i _
 | BoolOp=>exact(S.w h X d f _ _ _ G).pt
 | Compare a ops bs =>
  rcases ops with _ | ⟨op,_ | ⟨m,_ | _⟩⟩<;>rcases bs with _ | ⟨b,_ | ⟨c,_ | _⟩⟩<;>try exact i _
  ·show PT X _ (tT X d f (ite _ _ _));split
   ·rename_i hp;split
    ·rename_i g j;exact aaB (lJ G.un j) (S.e h X d f 0 _ G) (S.e h X d f 0 _ G) (iO hp _)
    ·exact xg
   ·exact xg
  ·show PT X _ (tT X d f (ite _ _ _));split
   ·rename_i hp;split
    ·rename_i g o j l;exact QM (lJ G.un j) (lJ G.un l) (S.e h X d f 0 _ G) (S.e h X d f 0 _ G) (S.e h X d f 0 _ G) (iO hp _)
    ·exact xg
   ·exact xg
 | _=>exact i _
def Xy(b:Gm)(X:Cx)(d:Hp)(f:Fz)(a:Expr)(c:List Expr)(p cp:Pos)(G:GOk b X d f)(hp:(a::c).all bG=true)(h:AN b "sorted"=true)(i:b.dJ.contains "sorted"=true):PE X (.Call (.Name "sorted" p) (a::c) [] cp) (tE X d f (Ni (n+1) b a c)):=by
 show PE X _ (tE X d f (match zN a c with | some ⟨m,_⟩=>_ | none=>cK))
 rcases zN a c with _ | ⟨⟨z,e⟩,rfl,o,q,rfl⟩
 ·exact br
 ·refine pJ λhc=>?_
  simp only[kc,aY]at hc;obtain⟨⟨g,j,k⟩,l⟩:=hc;have g:=bh g;subst g;exact Xi G.hd (G.lW h) (G.dJ _ i) (G.lW j) (G.dJ _ k) (S.e b X d f 0 _ G) (bR l _ _)
def abT(b:Gm)(X:Cx)(c:Hp)(d:Fz)(a:Expr)(f:List Expr)(p cp:Pos)(G:GOk b X c d)(hp:(a::f).all bG=true)(g:AN b "dict"=true)(h:b.dJ.contains "dict"=true):PE X (.Call (.Name "dict" p) (a::f) [] cp) (tE X c d (Xx (n+1) b a f)):=by
 rw[ip,aY]at hp;cases f with
 | cons=>exact br
 | nil=>cases a with
  | BinOp l op=>cases op with
   | Add=>exact Xl G.hd (G.lW g) (G.dJ _ h) (S.e b X c d 0 _ G) (S.e b X c d 0 _ G) rfl
   | _=>exact br
  | _=>exact br
def Xz(c:Gm)(X:Cx)(d:Hp)(e:Fz)(m:Nat)(a:Expr)(f:List Expr)(p cp:Pos)(G:GOk c X d e)(hp:(a::f).all bG=true)(i:AN c "list"=true)(j:c.dJ.contains "list"=true):PE X (.Call (.Name "list" p) (a::f) [] cp) (tE X d e (Nj (n+1) c m a f)):=by
 rw[ip,aY]at hp;cases f with
 | cons=>exact br
 | nil =>
  show PE X _ (tE X d e (match Fm a with | some ⟨zs,_⟩=>_ | none=>cK))
  rcases Fm a with _ | ⟨⟨z,b,bs⟩,o,q,rfl⟩
  ·exact br
  ·refine pJ λhc=>?_
   simp only[kc,aY]at hc;obtain⟨⟨g,k,l⟩,h⟩:=hc;have g:=bh g;subst g;rw[ip,aY]at h;exact abJ G.hd (G.lW i) (G.dJ _ j) (G.lW k) (G.dJ _ l) (S.a c X d e 0 _ G) (bR h.1 _ _) (iR h.2 _ _)
def XA(c:Gm)(X:Cx)(d:Hp)(f:Fz)(a:Expr)(b:List Expr)(p cp:Pos)(G:GOk c X d f)(hp:(a::b).all bG=true)(h:AN c "isinstance"=true)(i:c.dJ.contains "isinstance"=true):PE X (.Call (.Name "isinstance" p) (a::b) [] cp) (tE X d f (Nh (n+1) c a b)):=by
 cases b with
 | nil=>exact br
 | cons e b=>cases e with
  | Name t=>cases b with
   | cons=>exact br
   | nil =>
    refine pJ λhc=>?_
    unfold kc at hc;rw[aY]at hc;rw[ip,aY]at hp;cases j:GZ t with
    | none=>exact br
    | some g=>exact ae9 j (G.lW h) (G.dJ _ i) (G.lW hc.1) (G.dJ _ hc.2) (S.e c X d f 0 a G) λb=>bR hp.1 b _
  | _=>exact br
def abU(c:Gm)(X:Cx)(d:Hp)(f:Fz)(a b:Expr)(p:Pos)(G:GOk c X d f):PE X (.Subscript a b p) (tE X d f (Xs (n+1) c a b)):=by
 show PE X _ (tE X d f (match zM b with | some ⟨i,_⟩=>_ | none=>_))
 rcases zM b with _ | ⟨⟨lo,j⟩,k,rfl⟩
 ·refine pJ λhp=>?_
  have g:=λa=>afa (pos:=p) G.un (S.e c X d f 0 a G) (S.e c X d f 0 b G) (Cf hp)
  cases a with
  | Name T =>
   refine pI (λhc=>?_) (g _)
   rw[aY]at hc;cases h:c.tabs.lookup T with
   | some rows=>exact abm (G.tabs _ rows h) (G.lW hc.2) (S.e c X d f 0 _ G) (Cf hp) (lg hc.1).1
   | none=>exact g _
  | _=>exact g _
 ·exact aaR (S.e c X d f 0 _ G) (S.l c X d f _ G) (S.l c X d f _ G)
def abV(h:Gm)(X:Cx)(c:Hp)(d:Fz)(k e:Expr)(G:GOk h X c d):PI X k e (Ku X c d (Nl (n+1) h k e)):=by
 have l:∀e,PI X k e (Ku X c d (if bG e=true then jr (bY n h 0 e)else cK)):=λe=>by
  split
  ·exact Mx (S.e h X c d 0 _ G)
  ·exact Uj
 cases e with
 | Call f as ks=>cases f with
  | Name x p =>
   rcases as with _ | ⟨a,_ | ⟨b,_ | _⟩⟩<;>rcases ks with _ | _<;>try exact l _
   ·show PI X _ _ (Ku X c d (ite _ _ _));split
    ·rename_i hc;simp only[kc,aY]at hc;obtain⟨⟨g,i,j⟩,hp⟩:=hc;have g:=bh g;subst g;exact WQ <| Ms (G.lW i) (G.dJ _ j) (S.a h X c d 0 _ G) (bR hp _ _)
    ·split
     ·rename_i hc;simp only[kc,aY]at hc;obtain⟨⟨⟨g,i,j⟩,hp⟩,ht⟩:=hc;have g:=bh g;subst g;exact WQ <| afn ht (G.lW i) (G.dJ _ j) (S.e h X c d 0 _ G) (bR hp _ _)
     ·exact Mx (S.e h X c d 0 _ G)
   ·show PI X _ _ (Ku X c d (ite _ _ _));split
    ·rename_i hc;simp only[kc,aY]at hc;obtain⟨⟨⟨g,i,j⟩,hp⟩,m⟩:=hc;have g:=bh g;subst g;exact WQ <| Mt (G.lW i) (G.dJ _ j) (S.a h X c d 0 _ G) (by rw[bR hp,bR m];rfl) (bR m _ _)
    ·exact Mx (S.e h X c d 0 _ G)
  | _=>exact l _
 | _=>exact l _
def R9:CC X a b elt gens scope p cK:=⟨br,λ_ _ _ _ _ _ _=>zO⟩
def cI{c:Prop} [Decidable c] (h:c->CC X a b elt gens scope p f):CC X a b elt gens scope p (if c then f else cK):=by
 split
 ·exact h ‹_›
 ·exact R9
def abW(l:Gm)(X:Cx)(d:Hp)(f:Fz)(m:Nat)(j:Expr)(b:List Comprehension)(a:Scope)(p:Pos)(G:GOk l X d f):CC X d f j b a p (Xu (n+1) l m j b a):=by
 rcases b with _ | ⟨⟨o,iter,ifs,(_ | _) | _⟩,_ | _⟩<;>try exact R9
 refine cI λhp=>?_
 cases J:zH n (xc l a) o with
 | none=>exact R9
 | some g =>
  refine cI λhc=>?_
  have q:=Fl G hc;have r:=(oC hc).2.2.2;have u:=Na G hc;have v:=S.i l X d f o iter G;have w:=λC s H k=>(lL (u C s H k d f) n o g J).1
  have y:=(lL (u 0 X.s₀ X.aa [] d f) n o g J).2.1;have he:=λC s H k=>S.e _ _ _ _ (JE m) j (u C s H k d f)
  rcases ifs with _ | ⟨c,_ | _⟩
  ·exact⟨(G5 G.calm q v (pb1 w he) (gE hp _)).imp λB H Q h=>My y r h,λi x L M E I hw=>(G6 G.calm G.nd E I q v (pb1 w he) hw (gE hp _)).imp λD B H h=>My y r (rL h)⟩
  ·have ht:=λC s H k=>S.t _ _ _ _ c (u C s H k d f)
   exact⟨(G5 G.calm q v (pb2 w he ht) (gE hp _)).imp λB H Q h=>Mz y r h,λi x L M E I hw=>(G6 G.calm G.nd E I q v (pb2 w he ht) hw (gE hp _)).imp λD B H h=>Mz y r (rL h)⟩
  ·exact R9
def abX(b:Gm)(X:Cx)(c:Hp)(d:Fz)(x:Str)(a:Expr)(f:List Expr)(p cp:Pos)(G:GOk b X c d)(hp:(a::f).all bG=true)(g:jc x=true)(h:PC b x=true):PE X (.Call (.Name x p) (a::f) [] cp) (tE X c d (Nf (n+1) b x a f)):=by
 rw[ip,aY]at hp;cases f with
 | cons=>exact br
 | nil =>
  show PE X _ (tE X c d (match([]:List Expr),slot b x,b.zE with | [],some i,some o=>_ | _,_,_=>cK))
  cases j:slot b x with
  | none=>exact br
  | some=>cases k:b.zE with
   | none=>exact br
   | some o=>exact abt (G.zE o.1 o.2 k) (w9 G g h j) (S.e b X c d 0 a G) (bR hp.1 _ _)
def XB(b:Gm)(X:Cx)(c:Hp)(d:Fz)(a:Expr)(f:List Expr)(p cp:Pos)(G:GOk b X c d)(hp:(a::f).all bG=true)(q:AN b "spread"=true):PE X (.Call (.Name "spread" p) (a::f) [] cp) (tE X c d (Ng (n+1) b a f)):=by
 rcases f with _ | ⟨e,_ | _⟩
 ·exact br
 ·cases e with
  | Lambda args body scope =>
   show PE X _ (tE X c d (match b.vj,rQ args with | some rs,some r=>_ | _,_=>cK))
   cases t:b.vj with
   | none=>exact br
   | some rs=>cases u:rQ args with
    | none=>exact br
    | some r =>
     refine pJ λhc=>?_
     rw[ip,aY]at hp;obtain rfl:=zK u;obtain⟨j,g⟩:=JG G hc;obtain⟨⟨E,fs,I,J,M,k,N,rfl,D,v,w,h,i,x,y,B⟩,L⟩:=G.vj rs t;exact MN D v w h i L (G.lW q) x (S.e b X c d 0 a G) (bR hp.1 _ _) j y λl Q R cl A stack s H m o C=>S.e _ _ m o 0 _ (R7 G j.kind g B C m o)
  | _=>exact br
 ·cases e<;>exact br
def abY(b:Gm)(X:Cx)(l:Hp)(o:Fz)(m:Nat)(x:Str)(a:Expr)(e:List Expr)(p cp:Pos)(G:GOk b X l o)(hp:(a::e).all bG=true)(I:jc x=true)(q:AN b x=true):PE X (.Call (.Name x p) (a::e) [] cp) (tE X l o (Xw (n+1) b m x a e)):=by
 have t:=hp;rw[ip,aY]at t;obtain⟨E,T,Y⟩:=lg I;have u:=S.a b X l o 0 (a::e) G;have v:=bR t.1 e X.env;have w:=iR t.2 X.env cp;refine pI (λi=>?_) ?_
 ·cases bh i;exact S.sp b X l o a e p cp G hp q
 cases hk:b.fns.lookup x with
 | some k =>
  obtain⟨j,f,J,L,F,y,B,C,N⟩:=G.fns _ k hk;exact W0 (afX F y N) (G.lW q) B C u E v w
 | none=>cases hk:b.cls.lookup x with
  | some k=>cases m with
   | zero =>
    obtain⟨j,Z,f,J,L,R,c,M,F,y,B,C⟩:=G.cls _ k hk;exact(P0 (p:=p) M F y (G.lW q) B C .nil Bz u E v w).imp λσ H Q h=>RL R c h
   | succ=>exact br
  | none =>
   refine pJ λr=>pI (λi=>?_) (pI (λi=>?_) (pI (λi=>?_) (pI (λi=>?_) ?_)))
   ·cases bh i;exact S.is b X l o a e p cp G hp q r
   ·cases bh (dY.mp i).1;exact S.st b X l o a e p cp G hp q r
   ·cases bh i;exact S.d b X l o a e p cp G hp q r
   ·cases bh i;exact S.li b X l o m a e p cp G hp q r
   cases D:zI x with
   | some g=>exact Xp D G.hd (G.lW q) (G.dJ _ r) u v w
   | none=>exact br
def abZ(b:Gm)(X:Cx)(c:Hp)(d:Fz)(m:Nat)(f a:Expr)(h:List Expr)(cp:Pos)(G:GOk b X c d)(hp:(a::h).all bG=true):PE X (.Call f (a::h) [] cp) (tE X c d (Xv (n+1) b m f a h cp)):=by
 have i:=hp;rw[ip,aY]at i;cases f with
 | Name=>exact pJ λj=>pI (λk=>S.cn b X c d m _ a h _ cp G hp j k) (pJ λl=>S.o b X c d _ a h _ cp G hp j l)
 | Subscript=>exact RK G.fns G.ns (S.e b X c d 0 _ G) (S.a b X c d 0 _ G) (bR i.1 _ _) (iR i.2 _ _)
 | Attribute o g ap =>
  refine pJ λhc=>?_
  simp only[aY,kK]at hc;cases hw:Hc g with
  | none=>exact br
  | some w=>exact afr G.un hw (S.e b X c d 0 _ G) (S.a b X c d _ _ G) (rP hc.1.1) (R6 hp hc.2) hc.1.2 (bR i.1 _ _) (iR i.2 _ _)
 | _=>exact br
def ab0(j:Gm)(X:Cx)(d:Hp)(h:Fz)(m:Nat)(e:Expr)(G:GOk j X d h):PE X e (tE X d h (bY (n+1) j m e)):=by
 cases e with
 | Constant c=>cases c<;>first | exact br | exact aay | exact ae1 | exact aax | exact aaz
 | Name x =>
  show PE X _ (tE X d h (Xq j x));unfold Xq;split
  ·rename_i o;split
   ·rename_i p;split
    ·rename_i i r;exact TU i (w9 G o p r)
    ·exact br
   ·split
    ·rename_i y;split
     ·rename_i q B;obtain⟨u,v,C,D,E⟩:=G.cons _ q B;exact BA (Gz (G.lW y) C D (lg o).1) E
     ·exact br
    ·exact br
  ·exact br
 | BinOp a op b =>
  show PE X _ (tE X d h (match R0 op with | some g=>op2 g (bY n j 0 a) (bY n j 0 b) | none=>cK))
  cases H:R0 op with
  | none=>exact br
  | some=>exact ae2 (MZ H) (S.e j X d h 0 _ G) (S.e j X d h 0 _ G)
 | UnaryOp op=>cases op with
  | Not=>exact aaG (S.e j X d h 0 _ G)
  | USub=>exact aaU (S.e j X d h 0 _ G)
  | _=>exact br
 | BoolOp=>exact S.b j X d h _ _ _ G
 | Compare=>exact S.k j X d h _ _ _ _ G
 | IfExp=>exact ae5 (S.t j X d h _ G) (S.e j X d h m _ G) (S.e j X d h m _ G)
 | Tuple=>exact aaI (S.a j X d h m _ G)
 | List=>cases m with
  | zero=>exact aaJ (S.a j X d h 0 _ G)
  | succ=>exact Wi (S.a j X d h _ _ G)
 | Dict ks I=>rcases ks with _ | _<;>rcases I with _ | _<;>first | exact abl _ | exact br
 | Subscript=>exact S.x j X d h _ _ _ G
 | ListComp=>exact(S.c j X d h m _ _ _ _ G).1
 | Attribute =>
  show PE X _ (tE X d h (ite _ _ _));split
  ·rename_i J;exact abn (S.e j X d h 0 _ G) (rP J)
  ·exact br
 | Call f as ks=>cases as with
  | cons=>cases ks with
   | cons=>exact br
   | nil =>
    show PE X _ (tE X d h (ite _ _ _));split
    ·rename_i hp;exact S.f j X d h m _ _ _ _ G hp
    ·exact br
  | nil=>cases ks with
   | cons=>cases f<;>exact br
   | nil=>cases f with
    | Attribute =>
     show PE X _ (tE X d h (ite _ _ _));split
     ·rename_i hc;rw[aY]at hc;split
      ·rename_i l;have l:=bh l;subst l;exact abF (S.e j X d h 0 _ G) (rP hc.1) hc.2
      split
      ·rename_i w hw;exact abi hw (S.e j X d h 0 _ G) (rP hc.1) hc.2
      ·exact br
     ·exact br
    | _=>exact br
 | _=>exact br
end
theorem snd:∀n:Nat,Snd n
 | 0=>Nm
 | n+1 =>
  have S:=snd n
  ⟨ab0 S,abZ S,abX S,abY S,XB S,Xy S,abT S,Xz S,XA S,abR S,abU S,abS S,abN S,abO S,abP S,abQ S,abV S,abW S⟩
structure SOk (Γ:Gm) (X:Cx) (aa:Hp) (ab:Fz):Prop extends GOk Γ X aa ab where
 never:PassesOwn (model X.prog X.w) X.A X.env X.xe
def XC:Expr->Bool
 | .ListComp _ _ _ _=>true
 | _=>false
def Sb:G2:=t7 (λ_ _=>true) λi j=>.int (i+j)
def XD:Operator->Option G2
 | .Add=>some Sb
 | _=>none
noncomputable def sI{c:Prop} [Decidable c] (h:c->PS X e (tS X a b f)):PS X e (tS X a b (if c then f else cK)):=by
 split
 ·exact h ‹_›
 ·exact jv
section
variable {Γ:Gm} {X:Cx} {x:Str} {p sp:Pos} {e:Expr} {op:Operator} {i:Nat} {aa:Hp} {ab:Fz} {fe:Gx PV} {g:G2}
def Sd(h:XD op=some g):wJ X (inplaceOp op) g:=by
 cases op<;>cases h
 exact hJ (BE PJ) (λ_ _ _=>trivial) λ_ _ _=>aH.mpr rfl
def Se{st:cL}(h:rd i st=some r):∃p,st.ρ[i]?=some (some p)/\r=(.ok p,st):=by
 obtain⟨p,e1,a⟩:=bt h;cases z:st.ρ[i]? with
 | none=>rw[z]at e1;cases e1
 | some o =>
  rw[z]at e1;cases o with
  | none=>cases e1
  | some b=>cases e1;exact⟨p,rfl,a.symm⟩
def ab1(ho:wJ X (inplaceOp op) g)(he:PE X e (tE X aa ab fe))(hN:X.N.Nodup)(b:X.N[i]?=some x)(c:Tj X.env.scope x)(d:X.fn x=true\/X.env.scope.names.lookup x=some .local):PS X (.AugAssign (.Name x p) op e sp) (tS X aa ab (di (op2 g (rd i) fe) (aW i))):=by
 refine(VB hN b c he (λf s a H x y v u Q I j m t=>ho f s a H x y v u Q I j m t) d).imp λD a H h=>?_
 obtain⟨F,o,R,h⟩:=rL h;obtain⟨r,e1,B⟩:=At.bnd h;obtain⟨q,C,rfl⟩:=Se e1;obtain⟨v,E,J⟩:=R.l.av i q C;refine⟨v,E,F,o,R,Tx.bnd (B) λy w F1 L H1 M T Y Z=>?_⟩
 obtain⟨z,hz,k⟩:=Z.hp;exact⟨aa,ab,F1,L,a,q,y,z,hz,M,J.mono T,Y,k⟩
def Cg(G:GOk Γ X aa ab)(b:slot Γ x=some i)(c:Zf Γ x=true)(he:PE X e (tE X aa ab fe))(a:swapsWith e (some (.Name x p)) sp.line X.env=pure false):PS X (.Assign [.Name x p] e sp) (tS X aa ab (di fe (aW i))):=by
 obtain⟨d,f⟩:=G.Xo c;exact(VA G.nd (G.uA b) d he a f).imp λD j H h=>rL h
def Fo :
  (swapsWith (.ListComp elt gens scope cp) (some (.Name x p)) sp.line X.env=pure true/\X.env.scope.names.lookup x=some .local)\/swapsWith (.ListComp elt gens scope cp) (some (.Name x p)) sp.line X.env=pure false:=by
 have e:swapsWith (.ListComp elt gens scope cp) (some (.Name x p)) sp.line X.env=pure (X.env.blockKind==.function&&X.env.kindOf x==some .local&&p.line==(Expr.ListComp elt gens scope cp).pos.line&&!(scope.names.any fun(n,k)=>n==x&&(k==.local || k==.cell))):=rfl
 rw[e];cases a:(X.env.blockKind==.function&&X.env.kindOf x==some .local&&p.line==(Expr.ListComp elt gens scope cp).pos.line&&!(scope.names.any fun(n,k)=>n==x&&(k==.local || k==.cell)))with
 | true =>
  refine .inl ⟨rfl,?_⟩;simp only[aY]at a;exact bh a.1.1.2
 | false=>exact .inr rfl
def JH(h:(m8 e || XC e)=true)(l:Nat)(b:Env):swapsWith e (some (.Attribute a x p)) l b=pure false:=by
 cases e<;>first | rfl | cases h
def Fp(h:rO k=true)(a:Env)(v:Value):assign (.Subscript o k p) a v=(do
   let b <-holding [v] (eval o a)
   let c <-holding [v,b] (eval k a)
   standAt p
   holding [v,b,c] (setItem b c v)
   release [v,b,c] []):=by
 cases k<;>first | rfl | cases h
def Fq(a:Env):swappedStores [.Subscript o k p] e a=pure none:=by
 cases e<;>rfl
end
def WHL:Nat:=8000000
def isD(a:Gm):Expr->Bool
 | .Name x _=>md a x==10
 | _=>false
def RET:Str:="[return]"
def asName(n:Nat)(a:Gm)(x:Str)(e:Expr):Gx dM:=if(Zf a x&&(m8 e || XC e))=true then(match slot a x with | some i=>di (bY n a (md a x) e) (aW i) | none=>cK)else cK
noncomputable def Uk(n:Nat)(a:Gm)(b e:Expr):Gx dM:=match b with
 | .Name x _=>asName n a x e
 | .Tuple c k p=>if Hr e=true then(match zH n a (.Tuple c k p)with | some g=>di (bY n a 0 e) g.1 | none=>cK)else cK
 | .Subscript o k _=>if(rO k&&m8 e)=true then RJ (bY n a (abL a o) e) (bY n a 0 o) (bY n a 0 k)else cK
 | .Attribute o f _=>if(m8 e || XC e)=true then W8 a.clss a.flds f (bY n a (md a f) e) (bY n a 0 o)else cK
 | _=>cK
noncomputable def Ul(n:Nat)(a:Gm)(b:Expr)(c:Operator)(e:Expr):Gx dM:=match b with
 | .Name x _=>if Zf a x=true then(match slot a x,XD c with | some i,some g=>di (op2 g (rd i) (bY n a 0 e)) (aW i) | _,_=>cK)else cK
 | _=>cK
mutual
noncomputable def XE:Nat->Gm->Stmt->Gx dM
 | 0,_,_=>cK
 | n+1,d,st=>match st with
  | .Pass _=>bg .nx
  | .Break _=>bg .bk
  | .Continue _=>bg .ct
  | .Return none _=>bg (.rt .bM)
  | .Return (some e) _=>retS (bY n d (md d RET) e)
  | .If c a b _=>eH (vJ n d c) (lj n d a) (lj n d b)
  | .While c b [] _=>jQ (vJ n d c) (lj n d b) WHL
  | .For f iter body [] _=>if bG iter=true then(match zH n d f with | some g=>if isD d iter=true then RE (bY n d 0 iter) g.1 (lj n d body)else BQ (Nl n d f iter) g.1 (lj n d body) | none=>cK)else cK
  | .Expr e _=>if m8 e=true then iw (bY n d 0 e)else cK
  | .Assign [f] e _=>Uk n d f e
  | .AugAssign f op e _=>Ul n d f op e
  | _=>cK
termination_by structural n=>n
noncomputable def lj:Nat->Gm->List Stmt->Gx dM
 | 0,_,_=>cK
 | n+1,a,[]=>bg .nx
 | n+1,a,[st]=>XE n a st
 | n+1,a,st::b=>eS (XE n a st) (lj n a b)
termination_by structural n=>n
end
structure af1 (n:Nat):Prop where
 s:∀Γ X aa ab st,SOk Γ X aa ab->PS X st (tS X aa ab (XE n Γ st))
 ss:∀Γ X aa ab Zg,SOk Γ X aa ab->PSs X Zg (tS X aa ab (lj n Γ Zg))
def XF:PSs X s (tS X a b cK):=λ_ _ _ _ _ _ ⟨F,st,R,r,z,_⟩=>by cases z
def XG(G:GOk a X b d):PS X (.Assign [l] e sp) (tS X b d (Uk n a l e)):=by
 have S:=snd n;cases l with
 | Name x p =>
  refine sI λhc=>?_
  rw[aY]at hc;cases h:slot a x with
  | none=>exact jv
  | some i =>
   rcases Ee _ _▸hc.2 with q | j
   ·exact Cg G h hc.1 (S.e a X b d _ _ G) (iQ q _ _ _)
   ·cases e<;>try (exact absurd j dv)
    rcases Fo with⟨z,j⟩ | z
    ·cases n with
     | zero=>exact zO
     | succ n=>exact((snd n).c a X b d _ _ _ _ _ G).2 i x p sp (G.uA h) j z
    ·exact Cg G h hc.1 (S.e a X b d _ _ G) z
 | Tuple m k f =>
  refine sI λhc=>?_
  cases r:zH n a (.Tuple m k f)with
  | none=>exact jv
  | some g =>
   obtain⟨t,v,u,w⟩:=lL G n _ g r;refine aaN (S.e a X b d _ _ G) t (iQ (zG hc) (some (Expr.Tuple m k f)) sp.line X.env) ?_ (u _);cases e<;>first | rfl | cases hc
 | Subscript o k f =>
  refine sI λhc=>?_
  rw[aY]at hc;exact abk G.un (S.e a X b d _ _ G) (S.e a X b d _ _ G) (S.e a X b d _ _ G) (Fp hc.1 _) (iQ hc.2 (some (Expr.Subscript o k f)) sp.line X.env) (Fq _)
 | Attribute=>exact sI λhc=>abo G.Uh (S.e a X b d _ _ G) (S.e a X b d _ _ G) (JH hc _ _)
 | _=>exact jv
def XH(G:GOk a X b c):PS X (.AugAssign d op e sp) (tS X b c (Ul n a d op e)):=by
 cases d with
 | Name x p =>
  refine sI λhc=>?_
  cases f:slot a x with
  | none=>exact jv
  | some i=>cases h:XD op with
   | none=>exact jv
   | some g =>
    obtain⟨j,k⟩:=G.Xo hc;exact ab1 (Sd h) ((snd n).e a X b c _ _ G) G.nd (G.uA f) j k
 | _=>exact jv
theorem sns:∀n:Nat,af1 n
 | 0=>⟨λ_ _ _ _ _ _=>jv,λ_ _ _ _ _ _=>XF⟩
 | n+1=>by
  have T:=sns n;have S:=snd n;refine⟨λa X d f h G=>?_,λa X d f k G=>?_⟩
  ·cases h with
   | Pass=>exact Wl
   | Break=>exact QP
   | Continue=>exact Wm
   | Return e=>cases e with
    | none=>exact Wn
    | some e=>exact aaK (S.e a X d f _ _ G.toGOk)
   | If=>exact ae6 (S.t a X d f _ G.toGOk) (T.ss a X d f _ G) (T.ss a X d f _ G)
   | While c b o=>cases o with
    | nil=>exact QS WHL G.never (S.t a X d f _ G.toGOk) (T.ss a X d f _ G)
    | cons=>exact jv
   | For l iter body o=>cases o with
    | cons=>exact jv
    | nil =>
     refine sI λhp=>?_
     cases j:zH n a l with
     | none=>exact jv
     | some g =>
      show PS X _ (tS X d f (ite _ _ _));split
      ·exact WU G.never G.calm (S.e a X d f _ _ G.toGOk) (lL G.toGOk n _ g j).1 (T.ss a X d f _ G) (gE hp _)
      ·exact WR G.never G.calm (S.i a X d f _ _ G.toGOk) (lL G.toGOk n _ g j).1 (T.ss a X d f _ G) (gE hp _)
   | Expr=>exact sI λhc=>Wo (S.e a X d f _ _ G.toGOk) (iQ hc _ _ _)
   | Assign m=>rcases m with _ | ⟨_,_ | _⟩<;>first | exact XG G.toGOk | exact jv
   | AugAssign=>exact XH G.toGOk
   | _=>exact jv
  ·rcases k with _ | ⟨h,_ | _⟩
   ·exact Wj
   ·exact Wk (T.s a X d f h G)
   ·exact QO (T.s a X d f h G) (T.ss a X d f _ G)
def Fs:Nat:=120
abbrev CT:=Str->p8
def noFn:CT:=λ_ _ _=>none
def XI(P:Pg):List (Str×Nat):=P.cls.map λd=>(d.1,(params d.2).length)
def XJ(P:Pg)(x:Str)(st:Stmt)(cls:List (Str×Nat))(make:CT)(vj:Option ((PV->Gx PV)->Nat->p8))(zE:Option (Nat×(PV->Gx PV)))(c:CT):Gm where
 sc:=(az st).names
 N:=cz st
 own:=true
 fns:=P.defs.map λd=>(d.1,(params d.2).length)
 call:=c
 cons:=P.cons
 dJ:=P.dJ
 tabs:=P.tabs
 cls:=cls
 make:=make
 clss:=P.cls.map (·.1)
 flds:=P.flds
 Zr:=(P.Zr.lookup x).getD []
 vj:=vj
 zE:=zE
def rdI(P:Pg)(C:Str)(st:Stmt)(c:CT):Gx dM:=lj Fs (XJ P C st [] noFn none none c) (dz st)
def Zh(P:Pg)(c:CT):CT:=λC=>match P.cls.lookup C with | some st=>er (rdI P C st c) (cz st).length | none=>λ_ _=>none
def XM(P:Pg)(st:Stmt)(c:CT)(ω:PV->Gx PV)(n:Nat):Gx dM:=lj Fs (XJ P "spread" st [] noFn none (some (n,ω)) c) (dz st)
def XN(P:Pg)(x:Str)(c:CT):Option ((PV->Gx PV)->Nat->p8):=if P.pT.contains x=true then(P.defs.lookup ("spread":Str)).map λa=>λb n=>er (XM P a c b n) (cz a).length else none
def Um(P:Pg)(x:Str)(st:Stmt)(c:CT):Gx dM:=lj Fs (XJ P x st (XI P) (Zh P c) (XN P x c) none c) (dz st)
def run(P:Pg):Nat->CT
 | 0=>noFn
 | k+1=>λx=>match P.defs.lookup x with | some st=>er (Um P x st (run P k)) (cz st).length | none=>λ_ _=>none
def XO{P:Pg}{k:Nat}{x:Str}{st:Stmt}(h:P.defs.lookup x=some st):run P (k+1) x=er (Um P x st (run P k)) (cz st).length:=by
 show(match P.defs.lookup x with | some st=>er (Um P x st (run P k)) (cz st).length | none=>λ_ _=>none)=_
 rw[h]
theorem ll{b c:Type}(g:b->c)(x:Str):∀l:List (Str×b),(l.map λd=>(d.1,g d.2)).lookup x=(l.lookup x).map g
 | []=>rfl
 | (n,a)::r=>by
  rw[aO,kO,kO];cases x==n with
  | true=>rfl
  | false=>exact ll g x r
section
variable {prog:Program} {w:World} {K:W.Frag} {mg:Str->Option Value} {base:Heap}
def Ft{x:Str}{c T:Addr}(h:W.tabIn K x=some (c,T)):∃f b d a e,W.nsIn K mainGlobals x=some (some (.ref f))/\K.lookup f=some ⟨b,d,.func a,e⟩/\a.code=.ref c:=by
 unfold W.tabIn at h;split at h
 ·grind
 ·cases h
structure XQ (P:Pg) (w:World) (K:W.Frag) (mg:Str->Option Value):Prop where
 fns:∀x st,P.defs.lookup x=some st->∃f fd,Eg K x x st f fd/\gZ K fd (params st) []/\mg x=some (.ref f)/\dP (cz st) (params st) (az st)
 cons:∀x p,P.cons.lookup x=some p->∃u v,mg x=some u/\RelV v u/\∀F,bZ K F p v
 dJ:∀x,P.dJ.contains x=true->mg x=none
 tabs:∀T rows,P.tabs.lookup T=some rows->Hd K mg w.params T rows
 ns:∀x a,W.nsIn K mainGlobals x=some (some (.ref a))->mg x=some (.ref a)
 Uh:ML K (P.cls.map (·.1)) P.flds
 cls:∀C st,P.cls.lookup C=some st->∃Ca f fd,ClsAt K C (.ref Ca)/\Ir K Ca/\Mk K Ca f/\mg C=some (.ref Ca)/\Eg K "__init__" (C++".__init__") st f fd/\gZ K fd (params st) []/\dP (cz st) (params st) (az st)
 vj:∀x st,P.defs.lookup x=some st->P.pT.contains x=true->x∈dG/\(∃c T,W.tabIn K x=some (c,T)/\W.codeHdIn K c T=true)/\∀st,P.defs.lookup ("spread":Str)=some st->(params st).length=2
def FR(P:Pg)(prog:Program)(w:World)(K:W.Frag)(mg:Str->Option Value)(base:Heap)(k:Nat):Prop:=∀(x:Str) (st:Stmt) (f:Addr) (fd:FuncData),P.defs.lookup x=some st->mg x=some (.ref f)->Eg K x x st f fd->dP (cz st) (params st) (az st) ->
 FnOk prog w K mg base (jn prog w) (3*k) f fd (params st) (Ju K (params st).length (run P k x))
section
variable {P:Pg} (O:XQ P w K mg) {k:Nat} (ih:FR P prog w K mg base k)
include O ih
def Uo{X:Cx}(h1:X.prog=prog)(a:X.w=w)(h:X.K=K)(i:X.mg=mg)(j:X.base=base):Xn X (3*k) (P.defs.map λd=>(d.1,(params d.2).length)) (run P k):=λy n c=>by
 subst h1 a h i j;rw[ll (λl=>(params l).length)]at c
 obtain⟨b,h1,a⟩:=bt c;subst a;obtain⟨e,f,F1,m,g,o⟩:=O.fns y b h1;exact⟨3*k,e,f,params b,au _,ih y b e f h1 g F1 o,g,F1.kp,m⟩
def Nn{st:Stmt}{x q:Str}{f:Addr}{b:Value}{A:Around}{c:List Env}{s:Shared}{H p:Hp}{r:Fz}{E:XK}{a:List (Str×Nat)}{make:CT}{g:Option ((PV->Gx PV)->Nat->p8)}{h:Option (Nat×(PV->Gx PV))}{j:Nat}(S:dP (cz st) (params st) (az st))
  (l:dW j (A.deeper (envOfC q (az st) s.heap.objs.size f b))) (v:3*k<=j) (m:∀C n,a.lookup C=some n->∃k' d e t ps,ClsAt K C (.ref d)/\Ir K d/\Mk K d e/\FnOk prog w K mg base (jn prog w) k' e t ps (Ju K n (make C))/\dW (k'+1) (A.deeper (envOfC q (az st) s.heap.objs.size f b))/\mg C=some (.ref d)/\gZ K t ps [])
  (B:∀u,g=some u->M3 (XJ P x st a make g h (run P k)) (fP (jn prog w) prog w K mg base (cz st) q (az st) f b A c s H E) u)
  (o:∀n ω,h=some (n,ω)->B2 (fP (jn prog w) prog w K mg base (cz st) q (az st) f b A c s H E) p r n ω) :
  SOk (XJ P x st a make g h (run P k)) (fP (jn prog w) prog w K mg base (cz st) q (az st) f b A c s H E) p r:=by
 refine⟨⟨rfl,rfl,S.nd,S.kind,rfl,l.hd,?_,λ_ _=>rfl,λy n D=>?_,O.cons,O.dJ,O.tabs,O.ns,O.Uh,m,B,o⟩,PassesOwn.leaving⟩
 ·have:=l.un;show(A.deeper _).units+1150<cLine
  lia
 ·obtain⟨i,e,I,ps,J,L,M,N,Q⟩:=Uo (X:=fP (jn prog w) prog w K mg base (cz st) q (az st) f b A c s H E) O ih rfl rfl rfl rfl rfl y n D;exact⟨i,e,I,ps,L,l.mono (bA J v),M,N,Q⟩
def XS{st:Stmt}{x:Str}{f:Addr}{b:Value}{A:Around}{i:List Env}{s:Shared}{H:Hp}{E:XK}{d:List (Str×Nat)}{make:CT}{o:Option ((PV->Gx PV)->Nat->p8)}{p:Option (Nat×(PV->Gx PV))}{j:(PV->Gx PV)->Nat->p8}(h:P.defs.lookup x=some st)(q:mg x=some (.ref f))(hc:EZ K f b)(r:P.pT≠[]->Bx mg base)
  (t:dW (3*k+2) (A.deeper (envOfC x (az st) s.heap.objs.size f b))) (e:XN P x (run P k)=some j):M3 (XJ P x st d make o p (run P k)) (fP (jn prog w) prog w K mg base (cz st) x (az st) f b A i s H E) j:=by
 obtain⟨u,e⟩:=b9 e;obtain⟨a,e1,rfl⟩:=bt e;obtain⟨v,⟨c,T,ht,y⟩,g⟩:=O.vj x st h u;obtain⟨fs,B,F1,C,D,l⟩:=O.fns _ a e1;refine⟨⟨a,fs,B,params a,cz a,3*k,XM P a (run P k),rfl,F1,D,C,l,g a e1,t,λb A i s H E I J n ω L ho=>?_,Uo O ih rfl rfl rfl rfl rfl⟩,⟨⟨x,c,T,v,ht,y,(by
  obtain⟨M,oc,od,fd,AK,N,g,Q⟩:=Ft ht;obtain⟨R,X,XR,Y,m,Z⟩:=hc;have:=O.ns x M N;rw[q]at this;cases this;rw[g]at m;cases m;exact Z.symm.trans Q),rfl⟩,r (λz=>by grind)⟩⟩
 exact(sns Fs).ss _ _ I J _ (Nn O ih l L (fB _ _) (λ_ _ z=>by cases z) (λ_ z=>by cases z) λ_ _ z=>by cases z;exact ho)
def ab3{C:Str}{st:Stmt}{f:Addr}{a:FuncData}(h:P.cls.lookup C=some st)(F:Eg K "__init__" (C++".__init__") st f a)(S:dP (cz st) (params st) (az st)):FnOk prog w K mg base (jn prog w) (3*k+1) f a (params st) (Ju K (params st).length (Zh P (run P k) C)):=by
 have e:Zh P (run P k) C=er (rdI P C st (run P k)) (cz st).length:=by
  unfold Zh;rw[h]
 rw[e];exact ME F S λg A i s H E _ b c d=>(sns Fs).ss _ _ c d _ (Nn O ih S b (au _) (λ_ _ z=>by cases z) (λ_ z=>by cases z) λ_ _ z=>by cases z)
end
theorem Np{P:Pg}(O:XQ P w K mg)(j:P.pT≠[]->Bx mg base):∀(k:Nat),FR P prog w K mg base k
 | 0=>λx d f q h l F S=>by
  have m:∀b H Q E,¬Ju K (params d).length (run P 0 x) b H Q E:=λb H Q E ⟨_,_,_,_,_,_,_,_,_,_,z,_⟩=>by cases z
  exact⟨λb H Q E h=>absurd h (m b H Q E),λA r s H args R b Q E _ _ _ _ h=>absurd h (m b H Q E)⟩
 | k+1=>λx d f q h l F S=>by
  have ih:=Np (P:=P) O j k;rw[XO h];refine ME (k:=3*k+2) F S λT A r s H E t g u v=>(sns Fs).ss _ _ u v _ (Nn O ih S g (fB _ _) (λC n i=>?_) (λX e=>XS O ih h l t j g e) λ_ _ z=>by cases z)
  unfold XI at i;rw[ll (λd=>(params d).length)]at i
  obtain⟨o,p,y⟩:=bt i;subst y;obtain⟨B,D,I,a,c,M,J,F1,L,N⟩:=O.cls C o p;exact⟨3*k+1,B,D,I,params o,a,c,M,ab3 O ih p F1 N,g,J,L⟩
def vK(a:List Int):PV:=.lst (a.map .int)
theorem Ci{F:Fz}:∀a:List Int,aG K F (a.map .int) (a.map V.int)
 | []=>.nil
 | n::r=>.cons (aH.mpr rfl) (Ci r)
end
theorem jT{c d:Type} [BEq c] [LawfulBEq c] {k:c} {v:d}:∀{l:List (c×d)},l.lookup k=some v->(k,v)∈l
 | [],h=>by cases h
 | (a,b)::l,h=>by
  rw[kO]at h;cases z:k==a with
  | true =>
   rw[z]at h;cases h;rw[bh z];exact aM
  | false =>
   rw[z]at h;exact aK _ (jT h)
def Iu.at{K:W.Frag}{h:Heap}{b:Str->Option Value}{P:Params}{T:Str}{rows:List (Str×Str)}(x:Iu K P T rows)(X:K.In h)(G:h.Ns mainGlobals b):Hd K b P T rows:=by
 obtain⟨a,d,n,g,i,j,l⟩:=x;refine⟨a,d,n,W.mg_of X G g,i,j,λk fn e=>?_⟩
 obtain⟨f,m,c⟩:=l (k,fn) (jT e);exact⟨f,m,W.mg_of X G c,c⟩
def KU.at{K:W.Frag}{h a:Heap}{c:Str->Option Value}(b:KU K)(X:K.In h)(G:h.Ns mainGlobals c)(Y:K.In a):Bx c a :=
 let ⟨bm,o,d,e,f,g,i⟩:=b;⟨bm,o,W.mg_of X G d,e,f,Y _ _ g,i⟩
def Cj(K:W.Frag):List (Addr×Str):=dG.filterMap λx=>(W.tabIn K x).map λa=>(a.2,A7 x)
theorem xh{c d:Type} [BEq c] [LawfulBEq c] {b:c} {q:d}:∀{l:List (c×d)},(l.map (·.1)).Nodup->(b,q)∈l->l.lookup b=some q
 | [],_,h=>nomatch h
 | (a,v)::l,f,h=>by
  rw[aO,iX]at f;rw[kO];rcases aU.mp h with e | g
  ·grind
  ·have:(b==a)=false:=by
    grind
   rw[this];exact xh f.2 g
def JI(K:W.Frag):(Cj K).map (·.1)=dG.filterMap λx=>(W.tabIn K x).map (·.2):=by
 unfold Cj;rw[List.map_filterMap]
 congr 1
 funext x
 cases W.tabIn K x<;>rfl
def nC.tabs{K:W.Frag}{h:Heap}(t:nC K h)(X:K.In h):(∀b q,(Cj K).lookup b=some q->h.get? b=some {cls:=.none,data:=.fields #[]}/\isCodeTable h b/\K.lookup b=none)/\∀H:Hp,(∀b q,(Cj K).lookup b=some q->H b=some (.Ef q))->tf K H:=by
 refine⟨λb q e=>?_,λH g x a c T e=>?_⟩
 ·have d:=jT e;unfold Cj at d;obtain⟨x,a,i⟩:=sE.mp d;obtain⟨f,j,k⟩:=mF.mp i;cases k;obtain⟨l,m,p⟩:=t.at_ x a f.1 f.2 j;obtain⟨o,r,_,_,_,_,_,_,_,u,v,w,y,_⟩:=W.codeHd_of_K X l;exact⟨m,⟨_,o,r,u,v,w,y⟩,p⟩
 ·refine g T (A7 x) (xh (by rw[JI];exact t.nd) ?_)
  exact sE.mpr ⟨x,a,by rw[e];rfl⟩
def XT(P:Pg):Bool:=P.pT.isEmpty || (match P.defs.lookup ("spread":Str)with | some st=>(params st).length==2 | none=>true)
def af3{P:Pg}{K:W.Frag}{h:Heap}{t:Str->Option Value}(X:K.In h)(G:h.Ns mainGlobals t)(hd:∀d∈P.defs,KR K d.1 d.2)
  (hc:∀d∈P.cons,∃u v,W.nsIn K mainGlobals d.1=some (some u)/\RelV v u/\∀F,bZ K F d.2 v) (B:∀x∈P.dJ,W.nsIn K mainGlobals x=some none) {w:World} (ht:∀d∈P.tabs,Iu K w.params d.1 d.2) (i:∀d∈P.cls,U0 K d.1 d.2 P.flds) (l:XT P=true) (m:∀x∈P.pT,U1 K x):XQ P w K t where
 fns:=λx j e=>by
  obtain⟨⟨f,k,a,F,b⟩,s⟩:=hd (x,j) (eY e);exact⟨f,k,F,.all b,W.mg_of X G a,s⟩
 cons:=λx p e=>by
  obtain⟨u,v,a,r,b⟩:=hc (x,p) (eY e);exact⟨u,v,W.mg_of X G a,r,b⟩
 dJ:=λx e=>W.mg_none_of X G (B x (by simpa using e))
 tabs:=λT rows e=>(ht (T,rows) (jT e)).at X G
 ns:=λx a e=>W.mg_of X G e
 Uh:=λC e=>by
  have e:C∈P.cls.map (·.1):=by simpa using e
  obtain⟨d,hd,rfl⟩:=aE.mp e;obtain⟨o,f,k,a,M,c,y,F,b,s⟩:=i d hd;exact⟨o,a,c,λg D=>y g (by simpa using D)⟩
 cls:=λC j e=>by
  obtain⟨o,f,k,a,M,c,y,F,b,s⟩:=i (C,j) (eY e);exact⟨o,f,k,a,c,M,W.mg_of X G a,F,.all b,s⟩
 vj:=λx j e q=>by
  obtain⟨E,H⟩:=m x (by simpa using q)
  refine⟨E,H,λJ I=>?_⟩
  unfold XT at l;rw[I]at l;rcases Bool.or_eq_true_iff.mp l with z | z
  ·rw[yk.mp z]at q;cases q
  ·exact bh z
def Yes(o:Option (Rs PV×List aw)):Prop:=∃h,o=some (.ok (.bl true),h)
def XU{K:W.Frag}{P:Pg}{k:Nat}{H:Hp}{a:Addr}{d:List Int}(f:Yes (run P k "law" [vK d] []))(hS:lB K H a (d.map V.int)):Ju K 1 (run P k "law") [.ref a] H (λv _=>v=.bl true) λ_ _ _=>False :=
 let ⟨h,e⟩:=f
 ⟨H,⟨H,[]⟩,[],[vK d],_,h,⟨cV.refl H,cV.refl H,Gr.refl _,λ_ _ e=>.inl e,λn a e=>by simp at e,rfl,mO,λn c a e=>by simp at e⟩,λ_ _ e=>.inl e,.cons (gH.mpr ⟨a,_,rfl,hS,Ci d⟩) .nil,rfl,e,λv g i _ b=>cj.mp b⟩
def Nq{P:Pg}{N:Nat}{x:Str}{st:Stmt}{l:W.OpenLaw}{q:Program}{loose:List Str}{XP:(Str->Option Value)->Heap->Prop}{YP:World->Heap->Prop}{d:DefRec}(r:P.defs.lookup ("law":Str)=some st)(t:params st=[x])
  (I:l.most=some 63) (j:d.name="law") (m:d.params.defaults=[]) (J:dW (3*N) callerA) (L:XT P=true) (M:∀(w:World) (h:Heap),YP w h->∃K:W.Frag,K.In h/\KW P w K/\nC K h)
  (p:∀i:List Int,i.length<=63->Yes (run P N "law" [vK i] [])):W.WalkO q loose XP YP l.row.toRowW d [] (λf vs=>PySem.call f vs):=by
 refine Att.Bl I m λw v y mg mb fa o pm cd Q a vs i G Y ho hd Gu B R X C Z=>?_
 obtain⟨K,c,T,TH⟩:=M w _ Y;obtain⟨t1,t2⟩:=TH.tabs c;have O:=af3 c G.T.g T.hd T.hc T.hb T.ht T.hcl L T.hlm;obtain⟨⟨f,fd,D,F,b⟩,s⟩:=T.hd ("law",st) (eY r);rw[j]at B;have e:=B.symm.trans (W.mg_of c G.T.g D);cases e;rw[t]at b;refine IS (CX:=jn l.prog w) c G.T.g G.T.b G.T.builtins G.T.nolimit Z t1 t2 R X (bA C (by decide)) J (λE kb _=>?_) (λs u=>.of_eq (b [u] rfl)) (λH hS=>XU (p i C) hS) (by rintro _ _ _ ⟨_,_,_,_,_,_,_,_,_,_,_,h,_⟩;exact h)
 have k:=Np (prog:=l.prog) O (λz=>(T.hbm z).at c G.T.g kb) N "law" st _ fd r (W.mg_of c G.T.g D) F s
 rw[t]at k;exact k
abbrev Ev{b:Type}(f:Gx b)(s:cL)(a:b)(c:cL):Prop:=f s=some (.ok a,c)
abbrev Ek {b : Type} (f : Gx b) (s : cL) (a : b) : Prop := Ev f s a s
section
variable {α β:Type} {s s1 s2 s3:cL}
def eB(h:Ev f s a s1)(b:k a s1=r):bnd f k s=r:=by
 show(f s).bind (aaw k)=r;rw[h];exact b
def eI(h:Ev a s b s1)(c:(if b=true then f s1 else g s1)=r):eH a f g s=r:=eB h (by grind)
def iT(h:Ev a s true s1)(b:f s1=r):eH a f g s=r:=eI h b
def iF(h:Ev a s false s1)(b:g s1=r):eH a f g s=r:=eI h b
variable {fa fb fe:Gx PV} {ts:Gx (List PV)} {p q x y z:PV} {ps as:List PV}
def b2(a:Ev fa s x s1)(b:Ev fb s1 y s2)(h:g s2.h x y=some z):Ev (op2 g fa fb) s z s2:=eB a (eB b (by show(g s2.h x y).map _=_;rw[h];rfl))
def cA(a:Ev fa s x s1)(b:Ev ts s1 as s2):Ev (ay fa ts) s (x::as) s2:=eB a (eB b rfl)
def tU(h:Ev ts s ps s1)(a:ps.length<=4000000):Ev (mX .aq ts) s (.aq ps) s1:=eB h (by show(small ps (.nd .aq ps)).map _=_;rw[show small ps (.nd .aq ps)=some (.nd .aq ps)from if_pos a];rfl)
def lS(h:Ev ts s ps s1)(a:ps.length<=4000000):Ev (mX .lst ts) s (.lst ps) s1:=eB h (by show(small ps (.nd .lst ps)).map _=_;rw[show small ps (.nd .lst ps)=some (.nd .lst ps)from if_pos a];rfl)
def bV(a:Ev ts s as s1)(h:g s1.h as=some z):Ev (gL g ts) s z s1:=eB a (by show(g s1.h as).map _=_;rw[h];rfl)
def bT(h:Ev fa s (.bl b) s1):Ev (toB fa) s b s1:=eB h rfl
def tR(h:Ev fa s p s1)(ht:qZ s1.h p=some b):Ev (iu fa) s b s1:=eB h (by show(qZ s1.h p).map _=_;rw[ht];rfl)
def nB(h:Ev a s b s1):Ev (ER a) s (!b) s1:=eB h rfl
def clV(b:Ev ts s as s1)(c:as.length=n)(a:(s1.h.isEmpty || ai as)=true)(hc:g as []=some (.ok p,h'))(d:ou h' p=some q):Ev (bnd ts (bJ 0 n g)) s q s1:=eB b (by
 unfold bJ;rw[a,if_pos (show((0==0)&&true)=true from rfl)]
 unfold qa;rw[if_pos ⟨c,a⟩,hc];show(ou h' p).map _=_;rw[d];rfl)
def O4(a:Ev ts s as s1)(b:as.length=n)(c:((m==0)&&(s1.h.isEmpty || ai as))=false)(hc:g as s1.h=some (.ok p,h')):Ev (bnd ts (bJ m n g)) s p ⟨s1.ρ,h'⟩:=eB a (by
 unfold bJ;rw[c,if_neg dv];unfold E2;rw[if_pos b,hc];rfl)
variable {f g:Gx dM} {r:Option (Rs dM×cL)}
def sq(h:Ev f s .nx s1)(a:g s1=r):eS f g s=r:=eB h a
def nz(h:Ev f s (.rt p) s1):eS f g s=some (.ok (.rt p),s1):=eB h rfl
def aS(h:Ev fa s p s1)(ht:t p s1=some s2):Ev (di fa t) s .nx s2:=eB h (by show(t p s1).map _=_;rw[ht];rfl)
def rS(h:Ev fa s p s1):Ev (retS fa) s (.rt p) s1:=eB h rfl
def dS(h:Ev fa s p s1):Ev (iw fa) s .nx s1:=eB h rfl
def gO(e:f ⟨gY n as,h⟩=some (.ok (.rt p),⟨vL,h'⟩)):er f n as h=some (.ok p,h'):=by
 unfold er;rw[e];rfl
def XW(e:f ⟨gY n as,h⟩=some (.ok .nx,⟨vL,h'⟩)):er f n as h=some (.ok .bM,h'):=by
 unfold er;rw[e];rfl
variable {t:Tg} {body:Gx dM}
def fC(ht:t p s=some s1)(a:Ev body s1 .nx s2)(h:c9 t body ps s2=r):c9 t body (p::ps) s=r:=eB (show Ev (stp (t p)) s .nx s1 by show(t p s).map _=_;rw[ht];rfl) (eB a h)
def fR(ht:t p s=some s1)(a:Ev body s1 (.rt q) s2):c9 t body (p::ps) s=some (.ok (.rt q),s2):=eB (show Ev (stp (t p)) s .nx s1 by show(t p s).map _=_;rw[ht];rfl) (eB a rfl)
def fS(h:Ev fi s (.sq ps) s1)(a:c9 t body ps s1=r):BQ fi t body s=r:=eB h a
def sV(he:Ev fa s p s1)(a:zm p=some h):Ev (jr fa) s (.sq h) s1:=eB he (by show(Mv s1.h p).map _=_;unfold Mv;rw[a];rfl)
def sG(h:Ev fi s ps s1):Ev (Jq fi) s (.sq ps) s1:=eB h rfl
theorem Ck:∀{ps:List PV},(∀p∈ps,bd p h=some (F p,h))->fL bd ps h=some (ps.filterMap F,h)
 | [],_=>rfl
 | p::ps,H=>by
  show(bd p h).bind _=_;rw[H p aM];show(fL bd ps h).map _=_;rw[Ck λq a=>H q (aK _ a)]
  cases e:F p with
  | none=>rw[List.filterMap_cons_none e];rfl
  | some v=>rw[List.filterMap_cons_some e];rfl
def cQ(a:Ev fi s (.sq ps) s1)(b:ps.length<=4000000)(c:∀p∈ps,bd (bX link s1.ρ) p s1.h=some (F p,s1.h)):Ev (dH false link fi bd) s (.lst (ps.filterMap F)) s1:=eB a (by
 show(if ps.length<=gu then fL _ ps s1.h else none).bind _=_
 rw[if_pos (show ps.length<=gu from b),Ck c]
 rfl)
def e1(ht:t p ⟨a,h⟩=some ⟨EW,h1⟩)(he:Ev fe ⟨EW,h1⟩ q ⟨b,c⟩):lU t fe a p h=some (some q,c):=by
 unfold lU;rw[ht,dO,he];rfl
def XX(ht:t p ⟨c,h⟩=some ⟨EW,h1⟩)(hw:Ev d ⟨EW,h1⟩ true ⟨a,b⟩)(he:Ev fe ⟨a,b⟩ q ⟨e,i⟩):oo t d fe c p h=some (some q,i):=by
 unfold oo;rw[ht,dO,hw,dO];show(if true=true then(fe ⟨a,b⟩).bind _ else _)=_
 rw[if_pos rfl,he];rfl
def XY(ht:t p ⟨a,h⟩=some ⟨EW,h1⟩)(hw:Ev b ⟨EW,h1⟩ false ⟨c,d⟩):oo t b fe a p h=some (none,d):=by
 unfold oo;rw[ht,dO,hw];rfl
end
inductive Sh where
 | num | own | bN (n:Int) | bB (ps:List Sh)
mutual
def enc:Sh->PV
 | .num=>.aq [.str "num"]
 | .own=>.aq [.str "own"]
 | .bN n=>.aq [.str "strip",.int n]
 | .bB a=>.aq [.str "rec",.aq (bU a)]
def bU:List Sh->List PV
 | []=>[]
 | s::r=>enc s::bU r
end
mutual
def lv:Sh->List Sh
 | .num=>[.num]
 | .own=>[.own]
 | .bN n=>[.bN n]
 | .bB a=>gP a
def gP:List Sh->List Sh
 | []=>[]
 | s::r=>lv s++gP r
end
mutual
def dp:Sh->Nat
 | .bB a=>qF a+1
 | _=>0
def qF:List Sh->Nat
 | []=>0
 | s::r=>max (dp s) (qF r)
end
def jd:Sh->Bool
 | .bB _=>false
 | _=>true
theorem jw:∀l:List Sh,bU l=l.map enc
 | []=>rfl
 | s::r=>by simp[bU,jw r]
def qG(a b:List Sh):bU (a++b)=bU a++bU b:=by simp[jw]
def eJ(a:List Sh):(bU a).length=a.length:=by simp[jw]
theorem uC:∀a b:List Sh,gP (a++b)=gP a++gP b
 | [],b=>by simp[gP]
 | s::r,b=>by simp[gP,uC r b]
mutual
theorem rV:∀s:Sh,∀x∈lv s,jd x=true
 | .num,x,h=>by simp[lv]at h;subst h;rfl
 | .own,x,h=>by simp[lv]at h;subst h;rfl
 | .bN n,x,h=>by simp[lv]at h;subst h;rfl
 | .bB a,x,h=>Cn a x (by simpa[lv]using h)
theorem Cn:∀ps:List Sh,∀x∈gP ps,jd x=true
 | [],x,h=>by simp[gP]at h
 | s::r,x,h=>by
  simp only[gP,bI]at h;rcases h with h | h
  ·exact rV s x h
  ·exact Cn r x h
end
def Fu(h:jd s=true):lv s=[s]/\dp s=0:=by
 cases s with
 | bB _=>cases h
 | _=>exact⟨by simp[lv],by simp[dp]⟩
mutual
theorem dh:∀s:Sh,noRef (enc s)=true
 | .num=>rfl
 | .own=>rfl
 | .bN _=>rfl
 | .bB a=>by simp[enc,noRef,ai,rW a]
theorem rW:∀l:List Sh,ai (bU l)=true
 | []=>rfl
 | s::l=>by simp[bU,ai,dh s,rW l]
end
def xC(hc:h[n]?=some ⟨.lst,ps⟩)(b:EO h q=some a)(c:ps.length+a.length<=4000000):BJ (.ref n) [q] ⟨d,h⟩=some (.ok .bM,⟨d,h.set n ⟨.lst,ps++a⟩⟩):=by
 show(EO h q).bind _=_;rw[b,dO];show(rf h (.ref n)).bind _=_;have e:rf h (.ref n)=some (n,⟨.lst,ps⟩):=by
  show(h[n]?).bind _=_;rw[hc];rfl
 rw[e,dO];show(((if ps.length+a.length<=gu then some (ps++a)else none).map _).map _)=_
 rw[if_pos (show ps.length+a.length<=gu from c)]
 rfl
def aC(hc:h[n]?=some ⟨.lst,ps⟩)(a:ps.length<4000000):kr (iH zi) (.ref n) [q] ⟨b,h⟩=some (.ok .bM,⟨b,h.set n ⟨.lst,ps++[q]⟩⟩):=by
 show(rf h (.ref n)).bind _=_;have e:rf h (.ref n)=some (n,⟨.lst,ps⟩):=by
  show(h[n]?).bind _=_;rw[hc];rfl
 rw[e,dO];show(((if ps.length<gu then some (ps++[q])else none).map _).map _)=_
 rw[if_pos (show ps.length<gu from a)]
 rfl
def AO(h1:Ev b s (.ref n) s1)(hc:s1.h[n]?=some ⟨.lst,ps⟩)(c:Ev d s1 as s2)(f:w (.ref n) as s2=r):E3 "list" w b d s=r:=by
 refine eB h1 (eB (a:=()) ?_ (eB c f));show((cS s1.h (.ref n)).bind _).map _=_;have e:cS s1.h (.ref n)=some (.lst,ps):=by
  show(s1.h[n]?).bind _=_;rw[hc];rfl
 rw[e];rfl
def Hs(c:CT):Gx dM:=(iw (E3 "list" BJ (rd 1) (ay (bnd (ay (rd 2) (bg [])) (bJ 0 1 (c "leaves"))) (bg []))))
def zP(c:CT):Gx dM :=
 (eS (eH (toB (op2 L8 (op2 bO (rd 0) (bg (.int 0))) (bg (.str "rec"))))
  (retS (mX .aq (ay (rd 0) (bg []))))
  (bg .nx))
  (eS (di (yW (bg [])) (aW 1))
  (eS (BQ (jr (op2 bO (rd 0) (bg (.int 1)))) (aW 2) (Hs c))
  (retS (gL Ja (ay (rd 1) (bg [])))))))
def Gives(o:Option (Rs PV×List aw))(q:PV):Prop:=∃p h,o=some (.ok p,h)/\ou h p=some q
def Fv(hp:noRef p=true):ou h p=some p:=by
 unfold ou;split
 ·rfl
 ·unfold wY;rw[if_pos hp]
theorem qH(X:PV):∀(ps acc:List Sh) (o:Option PV),(∀s∈ps,Gives (c "leaves" [enc s] []) (.aq (bU (lv s))))->acc.length+(gP ps).length<=4000000 ->
  ∃a,c9 (aW 2) (Hs c) (bU ps) ⟨[some X,some (.ref 0),o],[⟨.lst,bU acc⟩]⟩=some (.ok .nx,⟨[some X,some (.ref 0),a],[⟨.lst,bU (acc++gP ps)⟩]⟩)
 | [],acc,o,_,_=>⟨o,by simp[gP];rfl⟩
 | s::r,acc,o,h,b=>by
  obtain⟨p,g,d,e⟩:=h s aM;simp only[gP,aX]at b;obtain⟨a,ih⟩:=qH X r (acc++lv s) (some (enc s)) (λs f=>h s (aK _ f)) (by grind)
  refine⟨a,?_⟩;rw[b7]at ih;refine fC rfl (dS (AO rfl rfl (cA (clV rfl rfl (by simp[ai,dh]) d e) rfl) (xC rfl rfl (by rw[eJ,eJ];lia)))) ?_
  rw[<-qG];exact ih
def lq(h:jd s=true):er (zP c) 3 [enc s] []=some (.ok (.aq [enc s]),[]):=by
 cases s with
 | bB _=>cases h
 | _=>kernel_rfl
def Fw (h:∀s∈ps,Gives (c "leaves" [enc s] []) (.aq (bU (lv s)))) (hz:(gP ps).length<=4000000):Gives (er (zP c) 3 [enc (.bB ps)] []) (.aq (bU (gP ps))):=by
 obtain⟨a,q⟩:=qH (enc (.bB ps)) ps [] none h (by simpa using hz)
 refine⟨_,_,gO (sq (iF (s1:=⟨[some (enc (.bB ps)),none,none],[]⟩) (bT (by kernel_rfl)) rfl) (sq rfl (sq (fS rfl q) (rS rfl)))),Fv ?_⟩
 simp[noRef,rW]
structure eK (R:Nat->CT):Prop where
 run:∀k,R (k+1) "leaves"=er (zP (R k)) 3
mutual
theorem eK.all{R:Nat->CT}(A:eK R):∀(s:Sh) (k:Nat),dp s<=k->(lv s).length<=4000000->Gives (R (k+1) "leaves" [enc s] []) (.aq (bU (lv s)))
 | .num,k,_,_=>⟨_,_,by rw[A.run,lq rfl],rfl⟩
 | .own,k,_,_=>⟨_,_,by rw[A.run,lq rfl],rfl⟩
 | .bN n,k,_,_=>⟨_,_,by rw[A.run,lq rfl],rfl⟩
 | .bB b,0,hd,_=>by simp[dp]at hd
 | .bB b,k+1,hd,a=>by
  simp only[dp]at hd;simp only[lv]at a;rw[A.run];exact Fw (A.each b k (by lia) a) a
theorem eK.each{R:Nat->CT}(A:eK R):∀ps k,qF ps<=k->(gP ps).length<=4000000->∀s∈ps,Gives (R (k+1) "leaves" [enc s] []) (.aq (bU (lv s)))
 | [],_,_,_,s,a=>by cases a
 | p::r,k,hd,b,s,a=>by
  simp only[qF]at hd;simp only[gP,aX]at b;rcases aU.mp a with e | e
  ·rw[e];exact eK.all A p k (by lia) (by lia)
  ·exact eK.each A r k (by lia) (by lia) s e
end
end L2.U
namespace L2.U
open PySem L2
abbrev Rw:=List Int×Int×Int×Sh
noncomputable def oE(k a:Int)(r:Rw):Rw:=(k::r.1,a+r.2.1,r.2.2)
mutual
def tab:Sh->List Rw
 | .num=>[([],0,1,.num)]
 | .own=>[([],0,1,.own)]
 | .bN n=>[([],0,1,.bN n)]
 | .bB a=>([],0,((gP a).length:Int),.bB a)::tabs 0 0 a
def tabs:Nat->Int->List Sh->List Rw
 | _,_,[]=>[]
 | k,a,s::r=>(tab s).map (oE k a)++tabs (k+1) (a+((lv s).length:Int)) r
end
def sz(s:Sh):Int:=((lv s).length:Int)
def iI:List Sh->Nat
 | []=>0
 | s::l=>(tab s).length+iI l
def Nr(h:jd s=true):tab s=[([],0,1,s)]:=by
 cases s with
 | bB _=>cases h
 | _=>rfl
def Co(s:Sh):∃R,tab s=(([],0,sz s,s):Rw)::R:=by
 cases s with
 | bB a=>exact⟨tabs 0 0 a,by simp only[tab,sz,lv]⟩
 | num=>exact⟨[],by simp[tab,sz,lv]⟩
 | own=>exact⟨[],by simp[tab,sz,lv]⟩
 | bN n=>exact⟨[],by simp[tab,sz,lv]⟩
theorem gQ:∀(l:List Sh) (k:Nat) (a:Int),(tabs k a l).length=iI l
 | [],_,_=>rfl
 | s::l,k,a=>by simp[tabs,iI,gQ l]
def jU(s:Sh):1<=(tab s).length:=by
 obtain⟨R,e⟩:=Co s;rw[e];simp
theorem uD:∀l:List Sh,l.length<=iI l
 | []=>au _
 | s::l=>by
  have:=jU s;have:=uD l;simp only[iI,aN]
  lia
mutual
theorem xi:∀s:Sh,(lv s).length<=(tab s).length
 | .num=>by simp[lv,tab]
 | .own=>by simp[lv,tab]
 | .bN n=>by simp[lv,tab]
 | .bB a=>by
  have:=zQ a;simp only[lv,tab,aN,gQ]
  lia
theorem zQ:∀l:List Sh,(gP l).length<=iI l
 | []=>by simp[gP]
 | s::l=>by
  have:=xi s;have:=zQ l;simp only[gP,iI,aX]
  lia
end
mutual
theorem Uq:∀s:Sh,dp s<=(tab s).length
 | .num=>by simp[dp]
 | .own=>by simp[dp]
 | .bN n=>by simp[dp]
 | .bB a=>by
  have:=Nt a;simp only[dp,tab,aN,gQ]
  lia
theorem Nt:∀l:List Sh,qF l<=iI l
 | []=>by simp[qF]
 | s::l=>by
  have:=Uq s;have:=Nt l;simp only[qF,iI]
  lia
end
mutual
theorem Ht:∀(s:Sh),∀r∈tab s,r.1.length<=dp s
 | .num,r,h=>by simp[tab]at h;subst h;simp
 | .own,r,h=>by simp[tab]at h;subst h;simp
 | .bN n,r,h=>by simp[tab]at h;subst h;simp
 | .bB a,r,h=>by
  simp only[tab,aU]at h;rcases h with rfl | h
  ·simp
  ·simp only[dp];exact Cp a 0 0 r h
theorem Cp:∀l k a,∀r∈tabs k a l,r.1.length<=qF l+1
 | [],_,_,r,h=>by simp[tabs]at h
 | s::l,k,a,r,h=>by
  simp only[tabs,bI,aE]at h;simp only[qF];rcases h with⟨b,h0,rfl⟩ | h
  ·have:=Ht s b h0;simp only[oE,aN]
   lia
  ·have:=Cp l _ _ r h
   lia
end
theorem Cq:∀(l:List Sh) (s:Sh),s∈l->(tab s).length<=iI l
 | s::l,t,h=>by
  simp only[iI];rcases aU.mp h with rfl | h
  ·lia
  ·have:=Cq l t h
   lia
def xj(h:s∈ps):(tab s).length<=(tab (.bB ps)).length:=by
 have:=Cq ps s h;simp only[tab,aN,gQ]
 lia
noncomputable def Kw:Sh->Int->Option (Sh×Int)
 | .bB a,k=>if 0<=k then(a[k.toNat]?).map λs=>(s,((gP (a.take k.toNat)).length:Int))else none
 | _,_=>none
def walk:Sh->Int->List Int->Option (Sh×Int)
 | s,a,[]=>some (s,a)
 | s,a,k::p=>(Kw s k).bind λx=>walk x.1 (a+x.2) p
mutual
theorem uE:∀(s:Sh),∀r∈tab s,∀b,walk s b r.1=some (r.2.2.2,b+r.2.1)
 | .num,r,h,b=>by simp[tab]at h;subst h;simp[walk]
 | .own,r,h,b=>by simp[tab]at h;subst h;simp[walk]
 | .bN n,r,h,b=>by simp[tab]at h;subst h;simp[walk]
 | .bB a,r,h,b=>by
  simp only[tab,aU]at h;rcases h with rfl | h
  ·simp[walk]
  ·exact xk a [] r (by simpa[gP]using h) b
theorem xk:∀(c a:List Sh),∀r∈tabs a.length ((gP a).length:Int) c,∀b,walk (.bB (a++c)) b r.1=some (r.2.2.2,b+r.2.1)
 | [],a,r,h,b=>by simp[tabs]at h
 | s::c,a,r,h,b=>by
  simp only[tabs,bI,aE]at h;rcases h with⟨d,h0,rfl⟩ | h
  ·have:=uE s d h0 (b+((gP a).length:Int));simp only[oE,walk,Kw];simp[this]
   lia
  ·have:=xk c (a++[s]) r (by simpa[uC,gP]using h) b
   simpa using this
end
end L2.U
namespace L2.U
open PySem PySem.Spec PyProof.Rows
noncomputable def qd:bE->PV
 | .inl i=>.int i
 | .inr x=>.str x
def dk(ks:List bE):PV:=.aq (ks.map qd)
def xl:Nat:=3000000
abbrev eW:=List (List bE×Int)
noncomputable def Fx(ks:List (List bE))(k:List bE):Bool:=ks.any λj=>decide (j=k)
def fx(ah:eW)(c:Int)(f:List bE):eW:=if Fx (ah.map (·.1)) f=true then ah else ah++[(f,c)]
def dy(ah:eW)(c:Int):List (List bE)->eW
 | []=>ah
 | f::r=>dy (fx ah c f) c r
def qe(ah:eW)(c:Int)(f:List bE):(fx ah c f).length<=ah.length+1:=by
 unfold fx;split
 ·lia
 ·grind
theorem qf(c:Int):∀(l:List (List bE)) (ah:eW),(dy ah c l).length<=ah.length+l.length
 | [],_=>au _
 | g::l,ah=>by
  have a:=qf c l (fx ah c g);have b:=qe ah c g;show(dy (fx ah c g) c l).length<=_;rw[aN]
  lia
def toldP(t:List bE×Int):PV:=.aq (t.1.map qd++[.int t.2])
def hV(out:List bE->Option (List (List bE))):Nat->Nat->eW->Option eW
 | 0,_,_=>none
 | n+1,k,a=>match a[k]? with
  | none=>some a
  | some t=>(out t.1).bind λfs=>if a.length+fs.length<gu then hV out n (k+1) (dy a k fs)else none
theorem jx [DecidableEq α]:∀(l U:List α),l.Nodup->(∀x∈l,x∈U)->l.length<=U.length
 | [],_,_,_=>dn _
 | x::l,U,a,b=>by
  rw[iX]at a;have c:=b x aM;have e:=jx l (U.erase x) a.2 λy d=>(List.mem_erase_of_ne (λz=>a.1 (by grind))).mpr (b y (aK _ d))
  have f:=List.length_erase_of_mem c;have g:=List.length_pos_of_mem c;rw[aN]
  lia
def uF:Fx ks k=true↔k∈ks:=by
 unfold Fx;simp only[List.any_eq_true,kK];exact⟨(by rintro⟨x,h,e⟩;exact e▸h),λh=>⟨k,h,rfl⟩⟩
theorem gF(c:Int):∀(fs:List (List bE)) (ah:eW),∃more:eW,dy ah c fs=ah++more/\(∀t∈more,t.2=c/\t.1∈fs)
 | [],ah=>⟨[],by rw[eG];rfl,λ_ z=>nomatch z⟩
 | f::fs,ah=>by
  obtain⟨more,a,b⟩:=gF c fs (fx ah c f);show ∃m,dy (fx ah c f) c fs=ah++m/\_
  by_cases h:Fx (ah.map (·.1)) f=true
  ·have e:fx ah c f=ah:=by unfold fx;rw[if_pos h]
   rw[e]at a ⊢;exact⟨more,a,λt ht=>⟨(b t ht).1,aK _ (b t ht).2⟩⟩
  ·have e:fx ah c f=ah++[(f,c)]:=by unfold fx;rw[if_neg h]
   rw[e]at a ⊢;refine⟨(f,c)::more,by rw[a];simp,λt ht=>?_⟩
   rcases aU.mp ht with rfl | ht
   ·grind
   ·grind
theorem uG(c:Int):∀(fs:List (List bE)) (ah:eW),(ah.map (·.1)).Nodup->((dy ah c fs).map (·.1)).Nodup
 | [],_,h=>h
 | f::fs,ah,h=>by
  refine uG c fs (fx ah c f) ?_;unfold fx;split
  ·exact h
  ·rename_i g;rw[cf];refine pE.mpr ⟨h,by simp,λa d b e z=>?_⟩
   simp at e;subst z;rw[e]at d;exact g (uF.mpr d)
theorem qg(c:Int):∀(fs:List (List bE)) (ah:eW),∀f∈fs,f∈(dy ah c fs).map (·.1)
 | [],_,_,h=>nomatch h
 | g::fs,ah,f,h=>by
  rcases aU.mp h with rfl | h
  ·obtain⟨more,a,_⟩:=gF c fs (fx ah c f);show f∈(dy (fx ah c f) c fs).map (·.1);rw[a,cf];refine ik _ ?_;unfold fx;split
   ·rename_i b;exact uF.mp b
   ·grind
  ·exact qg c fs (fx ah c g) f h
section
variable (out:List bE->Option (List (List bE))) (eP:List (List bE))
def XZ(ah:eW):Prop:=∀(i:Nat) (f:List bE) (c:Int),ah[i]?=some (f,c)->(c = -1/\f∈eP)\/∃(j:Nat) (g:List bE) (d:Int) (fs:List (List bE)),j<i/\c=(j:Int)/\ah[j]?=some (g,d)/\out g=some fs/\f∈fs
def Fy(ah:eW)(k:Nat):Prop:=∀(j:Nat) (g:List bE) (d:Int),j<k->ah[j]?=some (g,d)->∃fs,out g=some fs/\∀f∈fs,f∈ah.map (·.1)
def JJ:XZ out eP (dy [] (-1) eP):=by
 obtain⟨more,a,b⟩:=gF (-1) eP [];rw[fE]at a;intro i f c e;rw[a]at e;obtain⟨d,g⟩:=b _ (dc e);exact .inl ⟨d,g⟩
def Nu{k:Nat}(h:XZ out eP ah)(hk:ah[k]?=some (g,d))(ho:out g=some fs):XZ out eP (dy ah (k:Int) fs):=by
 obtain⟨more,b,l⟩:=gF k fs ah;have C:=(bW.mp hk).1;have a:∀{j:Nat} {x:List bE×Int},ah[j]?=some x->(ah++more)[j]?=some x:=λ{j x} e=>by
  rw[ij (bW.mp e).1];exact e
 intro i f c e;rw[b]at e ⊢;by_cases m:i<ah.length
 ·rw[ij m]at e;rcases h i f c e with z | ⟨j,o,p,q,r,t,u,v,w⟩
  ·exact .inl z
  ·exact .inr ⟨j,o,p,q,r,t,a u,v,w⟩
 ·rw[mB (by lia)]at e
  obtain⟨y,B⟩:=l _ (dc e);exact .inr ⟨k,g,d,fs,by lia,y,a hk,ho,B⟩
def JK(h:Fy out ah k)(hk:ah[k]?=some (g,d))(ho:out g=some fs):Fy out (dy ah (k:Int) fs) (k+1):=by
 obtain⟨more,b,q⟩:=gF k fs ah;have r:=(bW.mp hk).1;intro j c i t e;rw[b]at e;rw[ij (cb ‹_› ‹_›)]at e;by_cases a:j=k
 ·subst a;rw[hk]at e;cases e;exact⟨fs,ho,qg j fs ah⟩
 ·obtain⟨l,m,o⟩:=h j c i (by lia) e
  refine⟨l,m,λf p=>?_⟩
  rw[b,cf];exact ik _ (o f p)
theorem qI(U:List (List bE))(B:Nat)(c:U.length+B<gu)(b:∀g∈U,∃fs,out g=some fs/\(∀f∈fs,f∈U)/\fs.length<=B):∀(n k:Nat) (ah:eW),U.length<n+k->k<=ah.length->(ah.map (·.1)).Nodup->(∀t∈ah,t.1∈U)->XZ out eP ah->Fy out ah k ->
  ∃res,hV out n k ah=some res/\(res.map (·.1)).Nodup/\(∀t∈res,t.1∈U)/\XZ out eP res/\Fy out res res.length/\∃more,res=ah++more
 | n,k,ah,r,hk,nd,sub,why,done=>by
  have u:ah.length<=U.length:=by
   have:=jx (ah.map (·.1)) U nd λx v=>by
    grind
   rwa [ao]at this
  cases n with
  | zero=>lia
  | succ n =>
   cases ht:ah[k]? with
   | none =>
    have e:ah.length<=k:=by grind
    refine⟨ah,?_,nd,sub,why,?_,[],by simp⟩
    ·show(match ah[k]? with | none=>some ah | some t=>_)=_
     rw[ht]
    ·grind
   | some t =>
    obtain⟨g,d⟩:=t;have h:=sub (g,d) (dc ht);obtain⟨fs,a,w,y⟩:=b g h;obtain⟨more,C,D⟩:=gF k fs ah;have E:=(bW.mp ht).1;obtain⟨res,i,j,l,m,o,p,H⟩:=qI U B c b n (k+1) (dy ah k fs) (by lia) (by grind) (uG _ _ _ nd) (λt q=>by
     grind) (Nu out eP why ht a) (JK out done ht a)
    refine⟨res,?_,j,l,m,o,more++p,by grind⟩
    show(match ah[k]? with | none=>some ah | some t=>(out t.1).bind λfs=>if ah.length+fs.length<gu then hV out n (k+1) (dy ah k fs)else none)=_
    rw[ht];show((out g).bind λfs=>if ah.length+fs.length<gu then hV out n (k+1) (dy ah k fs)else none)=_
    rw[a,dO,if_pos (by lia)]
    exact i
def uH(U:List (List bE))(B:Nat)(b:U.length+B<gu)(p:U.length<xl)(c:∀g∈U,∃fs,out g=some fs/\(∀f∈fs,f∈U)/\fs.length<=B)(q:∀f∈eP,f∈U) :
  ∃res,hV out xl 0 (dy [] (-1) eP)=some res/\(res.map (·.1)).Nodup/\(∀t∈res,t.1∈U)/\XZ out eP res/\Fy out res res.length/\∀f∈eP,f∈res.map (·.1):=by
 obtain⟨more,r,u⟩:=gF (-1) eP [];obtain⟨res,e,h,i,k,l,v,m⟩:=qI out eP U B b c xl 0 (dy [] (-1) eP) (DP ‹_›) (dn _) (uG _ _ _ mO) (λt ht=>by
  grind) (JJ out eP) (λj g d o=>absurd o (Ec _))
 exact⟨res,e,h,i,k,l,λf a=>by rw[m,cf];exact ik _ (qg _ _ _ f a)⟩
end
def X0(k:bE):BH (qd k)=some k:=by cases k<;>rfl
theorem Nv:∀ks:List bE,dj BH (ks.map qd)=some ks
 | []=>rfl
 | k::ks=>by simp only[aO,dj,X0,Nv ks,dO,gT]
def rX(h:ks.length<1000):iz true (dk ks)=some ks:=by
 show(if(ks.map qd).length<1000 then dj BH (ks.map qd)else none)=_
 rw[ao,if_pos h,Nv]
def Nw(k:bE):noRef (qd k)=true:=by cases k<;>rfl
theorem Hu:∀ks:List bE,ai (ks.map qd)=true
 | []=>rfl
 | k::ks=>by simp[ai,Nw,Hu ks]
def Sf(ks:List bE):noRef (dk ks)=true:=by simp[dk,noRef,Hu]
def hS(hd:List aw)(ah:eW):List aw:=hd++[⟨.lst,ah.map toldP⟩,⟨.fJ true (ah.map (·.1)),ah.map λ_=>.bl true⟩]
section
variable {hd:List aw} {ah:eW}
def X1:(hS hd ah)[hd.length]?=some ⟨.lst,ah.map toldP⟩:=by simp[hS]
def ab4:(hS hd ah)[hd.length+1]?=some ⟨.fJ true (ah.map (·.1)),ah.map λ_=>.bl true⟩:=by simp[hS]
def Us(h:j<hd.length):(hS hd ah)[j]?=hd[j]?:=by unfold hS;rw[ij h]
def ab5(a b c:aw):(hd++[a,b]).set (hd.length+1) c=hd++[a,c]:=by
 simp_all
def ab6(a b c:aw):(hd++[a,b]).set hd.length c=hd++[c,b]:=by
 grind
end
def oF:Gx dM :=
 (eH (toB (op2 (kq true) (rd 4) (rd 1)))
  (eS (RJ (bg (.bl true)) (rd 1) (rd 4))
  (iw (E3 "list" (kr (iH zi)) (rd 0) (ay (op2 fj (rd 4) (mX .aq (ay (rd 3) (bg [])))) (bg [])))))
  (bg .nx))
def xm(b:f.length<1000)(k:ah.length<4000000) :
  Ev oF ⟨[some (.ref hd.length),some (.ref (hd.length+1)),d,some (.int a),some (dk f)],hS hd ah⟩ .nx ⟨[some (.ref hd.length),some (.ref (hd.length+1)),d,some (.int a),some (dk f)],hS hd (fx ah a f)⟩:=by
 have i:cS (hS hd ah) (.ref (hd.length+1))=some (.fJ true (ah.map (·.1)),ah.map λ_=>.bl true):=by
  show((hS hd ah)[hd.length+1]?).bind _=_;rw[ab4];rfl
 have t:kq true (hS hd ah) (dk f) (.ref (hd.length+1))=some (.bl (!Fx (ah.map (·.1)) f)):=by
  unfold kq;rw[i];show(iz true (dk f)).map _=_;rw[rX b];rfl
 unfold oF fx;cases hm:Fx (ah.map (·.1)) f with
 | true =>
  rw[hm]at t;rw[if_pos rfl];exact iF (bT (b2 rfl rfl t)) rfl
 | false =>
  rw[hm]at t;rw[if_neg dv];refine iT (bT (b2 rfl rfl t)) (sq (s1:=⟨[some (.ref hd.length),some (.ref (hd.length+1)),d,some (.int a),some (dk f)],hd++[⟨.lst,ah.map toldP⟩,⟨.fJ true (ah.map (·.1)++[f]),(ah.map λ_=>PV.bl true)++[.bl true]⟩]⟩) ?_ ?_)
  ·refine eB rfl (eB rfl (eB rfl ?_));show(zw (.ref (hd.length+1)) (dk f) (.bl true) _).map _=_;have c:rf (hS hd ah) (.ref (hd.length+1))=some (hd.length+1,⟨.fJ true (ah.map (·.1)),ah.map λ_=>.bl true⟩):=by
    show((hS hd ah)[hd.length+1]?).bind _=_;rw[ab4];rfl
   unfold zw;rw[c];show((iz true (dk f)).bind _).map _=_;rw[rX b];show Option.map _ (if(ah.map (λt:List bE×Int=>t.1)).length<gu then _ else _)=_
   rw[if_pos (show(ah.map (·.1)).length<gu by rw[ao];have:gu=4000000:=rfl;lia)]
   unfold m4;rw[show kn f (ah.map (·.1))=false from hm,if_neg dv]
   show some (Rs.ok dM.nx,cL.mk _ ((hd++_).set (hd.length+1) _))=_;rw[ab5]
  ·have j:∀h,fj h (dk f) (.aq [.int a])=some (toldP (f,a)):=λh=>by
    have e:fj h (dk f) (.aq [.int a])=sizeOk ((f.map qd).length+1) (toldP (f,a)):=rfl;rw[e,ao];exact if_pos (show f.length+1<=gu by have:gu=4000000:=rfl;lia)
   have g:(hd++[⟨.lst,ah.map toldP⟩,⟨.fJ true (ah.map (·.1)++[f]),(ah.map λ_=>PV.bl true)++[.bl true]⟩]:List aw)[hd.length]?=some ⟨.lst,ah.map toldP⟩:=by simp
   refine dS (p:=.bM) (AO rfl g (cA (b2 rfl (tU (cA rfl rfl) (by simp)) (j _)) rfl) ((aC g (by rw[ao];lia)).trans ?_))
   rw[ab6];simp[hS]
theorem xo:∀(fs:List (List bE)) (ah:eW) (o:Option PV),(∀f∈fs,f.length<1000)->ah.length+fs.length<4000000 ->
  ∃b,c9 (aW 4) oF (fs.map dk) ⟨[some (.ref hd.length),some (.ref (hd.length+1)),c,some (.int a),o],hS hd ah⟩=some (.ok .nx,⟨[some (.ref hd.length),some (.ref (hd.length+1)),c,some (.int a),b],hS hd (dy ah a fs)⟩)
 | [],ah,o,_,_=>⟨o,rfl⟩
 | f::fs,ah,o,hf,d=>by
  simp only[aN]at d;have h:=qe ah a f;obtain⟨b,ih⟩:=xo fs (fx ah a f) (some (dk f)) (λg e=>hf g (aK _ e)) (by lia)
  exact⟨b,fC rfl (xm (hf f aM) (by lia)) ih⟩
def Cr:Gx dM:=BQ (jr (rd 2)) (aW 4) oF
def ab7(c:CT)(ω:PV->Gx PV)(n:Nat):Gx dM :=
 (eS (iw (bnd (ay (rd 2) (ay (rd 3) (ay (MM 1 n ω (cutE (op2 bO (rd 2) (rd 4)) (bg none) (wN (za (bg (.int 1)))))) (ay (rd 4) (bg []))))) (bJ 0 4 (c "tell_new"))))
  (di (op2 Sb (rd 4) (bg (.int 1))) (aW 4)))
def X2(c:CT)(ω:PV->Gx PV)(n:Nat):Gx dM :=
 (eS (di (yW (bg [])) (aW 2))
  (eS (di (MI true) (aW 3))
  (eS (iw (bnd (ay (rd 2) (ay (rd 3) (ay (rd 0) (ay (za (bg (.int 1))) (bg []))))) (bJ 0 4 (c "tell_new"))))
  (eS (di (bg (.int 0)) (aW 4))
  (eS (jQ (toB (op2 L5 (rd 4) (gL gX (ay (rd 2) (bg []))))) (ab7 c ω n) WHL)
  (retS (rd 2)))))))
def Ct(a:∀f∈fs,f.length<1000)(b:ah.length+fs.length<4000000) :
  er Cr 5 [.ref hd.length,.ref (hd.length+1),.lst (fs.map dk),.int c] (hS hd ah)=some (.ok .bM,hS hd (dy ah c fs)):=by
 obtain⟨d,e⟩:=xo fs ah none a b;exact XW (fS (sV rfl rfl) e)
theorem uI{all:List (List bE)}(e:hd[j]?=some ⟨.lst,all.map dk⟩):∀(fs:List (List bE)) (i b:Nat) (ah:eW) (o:Option PV),all.drop i=fs->(∀f∈fs,f.length<1000)->ah.length+fs.length<4000000->fs.length<b ->
  ∃k,BP (aW 4) oF j b i ⟨[some (.ref hd.length),some (.ref (hd.length+1)),d,some (.int a),o],hS hd ah⟩=some (.ok .nx,⟨[some (.ref hd.length),some (.ref (hd.length+1)),d,some (.int a),k],hS hd (dy ah a fs)⟩)
 | fs,i,0,ah,o,_,_,_,h=>by lia
 | fs,i,b+1,ah,o,c,hf,q,l=>by
  have r:=(bW.mp e).1;have nx:Mu j (hS hd ah) i=some ((all.map dk)[i]?):=by
   unfold Mu;have:cS (hS hd ah) (.ref j)=some (.lst,all.map dk):=by
    show((hS hd ah)[j]?).bind _=_;rw[Us r,e];rfl
   rw[this]
  have t:BP (aW 4) oF j (b+1) i ⟨[some (.ref hd.length),some (.ref (hd.length+1)),d,some (.int a),o],hS hd ah⟩=(match Mu j (hS hd ah) i with
   | some (some p)=>bnd (stp (aW 4 p)) (λ_=>bnd oF (wM (BP (aW 4) oF j b (i+1)))) ⟨[some (.ref hd.length),some (.ref (hd.length+1)),d,some (.int a),o],hS hd ah⟩
   | some none=>some (.ok .nx,⟨[some (.ref hd.length),some (.ref (hd.length+1)),d,some (.int a),o],hS hd ah⟩)
   | none=>none):=rfl
  rw[t,nx,bP];cases fs with
  | nil =>
   have:=List.drop_eq_nil_iff.mp c;rw[kD this];exact⟨o,rfl⟩
  | cons f fs =>
   have m:i<all.length:=by
    rcases Nat.lt_or_ge i all.length with h | h
    ·exact h
    ·rw[List.drop_eq_nil_of_le h]at c;cases c
   rw[ph m]at c;injection c with e1 u
   simp only[aN]at q l;have w:=qe ah a f;obtain⟨k,ih⟩:=uI e fs (i+1) b (fx ah a f) (some (dk f)) u (λg v=>hf g (aK _ v)) (by lia) (by lia)
   refine⟨k,?_⟩;rw[b6 m,e1];exact eB rfl (eB (xm (hf f aM) (by lia)) ih)
def JL(a:hd[j]?=some ⟨.lst,fs.map dk⟩)(b:∀f∈fs,f.length<1000)(c:ah.length+fs.length<4000000) :
  er Cr 5 [.ref hd.length,.ref (hd.length+1),.ref j,.int d] (hS hd ah)=some (.ok .bM,hS hd (dy ah d fs)):=by
 obtain⟨h,e⟩:=uI a fs 0 gu ah none rfl b c (by have:gu=4000000:=rfl;lia)
 have g:=(bW.mp a).1;refine XW (eB (eB rfl ?_) (show aa6 (aW 4) oF (AM.cl j) _=_ from e))
 have:cS (hS hd ah) (.ref j)=some (.lst,fs.map dk):=by
  show((hS hd ah)[j]?).bind _=_;rw[Us g,a];rfl
 unfold Mv;show Option.map _ (match cS (hS hd ah) (.ref j)with | some (.lst,_)=>some (AM.cl j) | _=>none)=_
 rw[this];rfl
def X3(e:cS h (.ref n)=some (.lst,ps)):bO h (.ref n) (.int i)=L2.lF ps i:=by
 unfold bO;simp only[e];rfl
def Nx(ps:List PV)(p:PV):km (ps++[p]) none (some (-1))=ps:=by
 unfold km;have e:HT.fu (ps++[p]).length (ps++[p]).length (some (-1))=ps.length:=by
  simp[HT.fu]
  lia
 rw[HT.Bh,e,List.drop_zero,Nat.sub_zero];simp
def cE'(h1:Ev a s p s1)(b:Ev c s1 l s2)(d:Ev e s2 h s3)(f:IZ s3.h l h p=some q):Ev (cutE a c e) s q s3:=eB h1 (eB b (eB d (by show(IZ s3.h l h p).map _=_;rw[f];rfl)))
section
variable {c:CT} {hd:List aw} {out:List bE->Option (List (List bE))} {ω:PV->Gx PV} {n:Nat} (hc:c "tell_new"=er Cr 5)
  (hω:∀g fs,out g=some fs->(∀f∈fs,f.length<1000)/\∀ah ρ,ω (dk g) ⟨ρ,hS hd ah⟩=some (.ok (.lst (fs.map dk)),⟨ρ,hS hd ah⟩))
include hc hω
theorem Cu(p:Option PV):∀(N k a:Nat) (ah res:eW),hV out N k ah=some res->N<=a->ah.length<4000000 ->
  ∃k',jQ (toB (op2 L5 (rd 4) (gL gX (ay (rd 2) (bg []))))) (ab7 c ω n) a ⟨[p,some (.ref n),some (.ref hd.length),some (.ref (hd.length+1)),some (.int (k:Int))],hS hd ah⟩=some (.ok .nx,⟨[p,some (.ref n),some (.ref hd.length),some (.ref (hd.length+1)),k'],hS hd res⟩)
 | 0,_,_,_,_,h,_,_=>by cases h
 | N+1,k,a,ah,res,h,hf,m=>by
  obtain⟨a,rfl⟩:∃f,a=f+1:=⟨a-1,by lia⟩
  have dT:cS (hS hd ah) (.ref hd.length)=some (.lst,ah.map toldP):=by
   show((hS hd ah)[hd.length]?).bind _=_;rw[X1];rfl
  have t:Ek (toB (op2 L5 (rd 4) (gL gX (ay (rd 2) (bg []))))) ⟨[p,some (.ref n),some (.ref hd.length),some (.ref (hd.length+1)),some (.int k)],hS hd ah⟩ (decide (k<(ah.length:Int))):=bT (b2 rfl (bV (cA rfl rfl) (by
   have e:lnO (hS hd ah) (.ref hd.length)=some ah.length:=by
    unfold lnO;rw[dT];show some (ah.map toldP).length=_;rw[ao]
   show Option.map _ (Option.bind (lnO (hS hd ah) (.ref hd.length)) _)=_;rw[e];rfl)) rfl)
  have h:(match ah[k]? with | none=>some ah | some t=>(out t.1).bind λfs=>if ah.length+fs.length<gu then hV out N (k+1) (dy ah k fs)else none)=some res:=h
  cases hk:ah[k]? with
  | none =>
   rw[hk]at h;cases h;have i:=mD.mp hk;rw[mK (by lia)]at t
   exact⟨_,eB t rfl⟩
  | some tt =>
   obtain⟨g,d⟩:=tt;rw[hk]at h;obtain⟨fs,j,h⟩:=aZ h;obtain⟨b,h⟩:=b9 h;have b:ah.length+fs.length<4000000:=b;obtain⟨l,hw⟩:=hω g fs j;have o:=(bW.mp hk).1;have q:=qf k fs ah;obtain⟨k',ih⟩:=Cu p N (k+1) a (dy ah k fs) res h (by lia) (iV ‹_› ‹_›)
   refine⟨k',?_⟩;rw[dE (by lia)]at t
   have ct:IZ (hS hd ah) none (some (-1)) (toldP (g,d))=some (dk g):=by
    show some (PV.aq (km (g.map qd++[.int d]) none (some (-1))))=_;rw[Nx];rfl
   refine eB t ?_;refine eB (sq (dS (O4 (cA rfl (cA rfl (cA (eB rfl (eB (show Option.map _ (if n=n then some ()else none)=_ by rw[if_pos rfl];rfl) (eB (cE' (b2 rfl rfl (by
    rw[X3 dT];exact atI_nat (by grind))) rfl rfl ct) (hw ah _)))) (cA rfl rfl)))) rfl (by
    have:(hS hd ah).isEmpty=false:=by simp[hS]
    rw[this];rfl) (by rw[hc];exact Ct l b))) (aS (b2 rfl rfl rfl) rfl)) ih
def Sg(hp:p=.lst (fk.map dk)\/∃j,p=.ref j/\hd[j]?=some ⟨.lst,fk.map dk⟩)(hk:∀f∈fk,f.length<1000)(k:fk.length<4000000)(a:hV out xl 0 (dy [] (-1) fk)=some res) :
  er (X2 c ω n) 5 [p,.ref n] hd=some (.ok (.ref hd.length),hS hd res):=by
 have b:=qf (-1) fk [];simp only[yp,d8]at b;obtain⟨l,e⟩:=Cu hc hω (some p) xl 0 WHL (dy [] (-1) fk) res a (by decide) (iV ‹_› ‹_›)
 have d:hS hd []=(hd++[⟨.lst,[]⟩])++[⟨.fJ true [],[]⟩]:=by simp[hS]
 have g:Ev (di (yW (bg [])) (aW 2)) ⟨[some p,some (.ref n),none,none,none],hd⟩ .nx ⟨[some p,some (.ref n),some (.ref hd.length),none,none],hd++[⟨.lst,[]⟩]⟩:=rfl;have run:c "tell_new" [.ref hd.length,.ref (hd.length+1),p,.int (-1)] (hS hd [])=some (.ok .bM,hS hd (dy [] (-1) fk)):=by
  rw[hc];rcases hp with rfl | ⟨j,rfl,h⟩
  ·exact Ct hk (by grind)
  ·exact JL h hk (by grind)
 have i:Ev (iw (bnd (ay (rd 2) (ay (rd 3) (ay (rd 0) (ay (za (bg (.int 1))) (bg []))))) (bJ 0 4 (c "tell_new")))) ⟨[some p,some (.ref n),some (.ref hd.length),some (.ref (hd.length+1)),none],hS hd []⟩ .nx ⟨[some p,some (.ref n),some (.ref hd.length),some (.ref (hd.length+1)),none],hS hd (dy [] (-1) fk)⟩ :=
  dS (O4 (s1:=⟨[some p,some (.ref n),some (.ref hd.length),some (.ref (hd.length+1)),none],hS hd []⟩) (cA rfl (cA rfl (cA rfl (cA rfl rfl)))) rfl (by
   have:(hS hd []).isEmpty=false:=by simp[hS]
   rw[this];rfl) run)
 exact gO (sq g (sq (by
  rw[d,<-show(hd++[(⟨.lst,[]⟩:aw)]).length=hd.length+1 by simp]
  rfl) (sq i (sq rfl (sq e (rS rfl))))))
end
end L2.U
namespace cu
open PySem L2 L2.U
abbrev oG:Stmt:=top 16
abbrev ab8:Stmt:=top 85
abbrev kI (n : Int) : Gx PV := bg (.int n)
abbrev kS (s : Str) : Gx PV := bg (.str s)
abbrev Q0 := dX (aW 2) (dX (aW 3) q8)
abbrev Q1 := ay (rd 1) (bg [])
abbrev Q2 := op2 bO (rd 1) (kI 1)
abbrev Q3 := mX .aq (ay (kS "lent") (ay (kS "sole") (bg [])))
abbrev Q5 := op2 bO (rd 1) (op2 bO (rd 0) (kI 0))
abbrev Q6 := ay (rd 3) (bg [])
abbrev Q7 := dX (aW 4) (dX (aW 5) q8)
abbrev Q8 := gL gX (ay (rd 2) (bg []))
abbrev Q9 := eH (toB (op2 jB (rd 2) (op2 bO (rd 4) (kI 1)))) (eH (iu (rd 3)) (bg true) (toB (op2 jB (rd 5) (kS "lend")))) (bg false)
abbrev Qa := di (rd 2) (jP 6 (dX (aW 3) (dX (aW 4) (dX (aW 5) (dX (aW 6) (dX (aW 7) (dX (aW 8) q8)))))))
abbrev Qb := ay (rd 0) Q1
abbrev Qc := orG (rd 6) (mX .lst (ay (bg (.aq [(.str "rest"),(.str ""),(.bl false),(.int 0),(.int 0),(.str "")])) (bg [])))
abbrev Qd := jP 2 (dX (aW 1) (dX (aW 2) q8))
abbrev Qe := op2 bO (rd 0) (rd 1)
abbrev Qf := eH (toB (op2 jB (op2 bO (rd 2) (kI 0)) (kS "strip"))) (iu (rd 3)) (bg false)
abbrev Qg := ay (op2 bO (rd 2) (op2 bO (rd 0) (kI 0))) (ay Q5 (ay (rd 0) (bg [])))
abbrev Qh := jP 3 (dX (aW 1) Q0)
abbrev Qi := op2 bO (rd 5) (kI 0)
abbrev Qj := dH false [none,none] (jr Q5) (lU (aW 1) (mX .aq Q1))
abbrev Qk := ay (rd 4) (bg [])
abbrev Ql := op2 bO (rd 2) (kI 1)
abbrev Qm := jP 3 (dX (aW 4) (dX (aW 5) (dX (aW 6) q8)))
abbrev Qn := eH (toB (op2 jB (rd 2) (rd 4))) (iu (rd 3)) (bg false)
abbrev Qo := ay (mX .aq (ay (kI 0) (bg []))) (bg [])
abbrev Qp := toB (op2 jB Q2 (kS ""))
abbrev Qq := toB (op2 (kq true) (op2 bO (rd 4) (kI 0)) Q3)
abbrev Qr := toB (op2 (kq true) (op2 bO (rd 3) (kI 0)) Q3)
abbrev Qs := jP 2 Q0
abbrev Qt := op2 fj (rd 4) (kI 1)
abbrev Qu := toB (op2 (kq false) (op2 bO Q2 (kI 0)) Q3)
abbrev Qv := ay (rd 6) (bg [])
abbrev Qw := op2 bO (rd 1) (kI 0)
abbrev Q4 := eH (toB (op2 jB Qw (kS "call"))) (toB (op2 L8 Q2 (kS ""))) (bg false)
abbrev Qx := jr (rd 3)
abbrev Qy := gL gX (ay (rd 7) (bg []))
abbrev Qz := ay (rd 0) (ay Q2 (bg []))
def X4:List (Str×Nat):=txt.defs.map λd=>(d.1,(params d.2).length)
abbrev Rn(x:Str)(F:CT->Gx dM)(n:Nat):Prop:=∀k,run txt (k+1) x=er (F (run txt k)) n
open Lean Meta in
dsimproc_decl pqF (Str.mk _):=λe=>do
 let .app _ (.app _ l):=e | return .continue
 let some l <-getListLit? l | return .continue
 return .done (mkApp (mkConst ``Str.ofString) (toExpr (String.ofList (l.toList.map λx=>Char.ofNat (x.nat?.getD 0)))))
open Lean in
dsimproc_decl pqI (Int.ofNat _):=λe=>do
 let .app _ n:=e | return .continue
 let some n:=n.nat? | return .continue
 return .done (toExpr (n:Int))
def gp(x:Str)(i n k:Nat){f:CT->Gx dM}(h:∀k,run txt (k+1) x=er (Um txt x (top i) (run txt k)) n:=by intro _;kernel_rfl)(e:∀c,Um txt x (top i) c=f c:=by intro c;conv=>(lhs;reduce;simp only[pqF,pqI])):run txt (k+1) x=er (f (run txt k)) n:=by rw[h,e]
noncomputable def lbP(s:List Stmt):List Nat->List Stmt
 | []=>s
 | i::r=>lbP (match s[i]? with | some (.For _ _ b _ _) | some (.If _ b _ _)=>b | _=>[]) r
def oH(x:Str)(i:Nat)(p:List Nat)(c:CT):Gx dM:=lj Fs (XJ txt x (top i) (XI txt) (Zh txt c) (XN txt x c) none c) (lbP (dz (top i)) p)
abbrev mh(a:Gx dM){f:Gx dM}(_:a=f:=by conv=>(lhs;reduce;simp only[pqF,pqI])):Gx dM:=f
section
seal eS W8 op2 bO rd bnd ay bg bJ dH jr lU oo aW iw E3 BJ eH toB L8 retS mX di yW BQ gL Ja cK ER chain leO L5 gX Sb Jd cutE wN kq jB fj jP dX q8 iu MI za jQ RJ kr iH zi MW BZ MJ orG Jq wW Jm Hk Jy lrg IY Xj isV isO Jc mkP Zh W7 vy zq aaO geO gB vx Jb iL QU Ri Mg QN Hq MM er XM RE MH Me
def FA(k:Nat):=gp "leaves" 5 3 k
def uJ(k:Nat):=gp "check_part" 6 2 k
noncomputable def Ny(c:CT):=mh (oH "part" 7 [1] c)
def Nz(k:Nat):=gp "part" 7 4 k
noncomputable def JM(c:CT):=mh (oH "first" 8 [2] c)
def JN(k:Nat):=gp "first" 8 5 k
def vM(k:Nat):=gp "is_copied" 9 1 k
noncomputable def Cv(c:CT):=mh (oH "kind_of" 12 [0] c)
def Cw(k:Nat):=gp "kind_of" 12 4 k
def vO(k:Nat):=gp "is_holder" 13 1 k
def zR(k:Nat):=gp "shape_of" 14 1 k
def zS(k:Nat):=gp "tell_new" 17 5 k
noncomputable def qJ(c:CT):=mh (Um txt "row_nexts" (top 28) c)
theorem vP:Rn "row_nexts" qJ 3:=λ_=>by kernel_rfl
noncomputable def uK(c:CT):Gx dM :=
 (eS (di (BZ X4 c (MJ (λk=>(List.lookup k jK).map .fn) Qi) (ay (rd 2) (ay (rd 5) (bg [])))) (aW 6))
  (iw (E3 "list" BJ (rd 3) (ay (dH false [none,none,some 4] (jr Qc) (lU (aW 1) (op2 fj (mX .aq (ay (rd 2) (bg []))) (rd 1)))) (bg [])))))
noncomputable def X5(c:CT):Gx dM :=
 (eS (di Qe (aW 2))
  (eS (di (yW (bg [])) (aW 3))
  (eS (BQ (Jq (wW (op2 bO (rd 2) (kI 4)))) (jP 2 Q7) (uK c))
  (retS (rd 3)))))
theorem NA:Rn "acts" X5 7:=λ_=>by kernel_rfl
noncomputable def xp(c:CT):=mh (oH "nexts" 30 [2] c)
noncomputable def qh(c:CT):=mh (oH "nexts" 30 [4] c)
def JO(k:Nat):=gp "nexts" 30 7 k
def Cy(k:Nat):=gp "come_to" 31 2 k
noncomputable def FC(c:CT):Gx dM :=
 (retS (Jy (λa n=>er (XM txt oG c a n) 5) (mX .lst Qo) Qj [some 0]))
theorem zT:Rn "arrivals" FC 1:=λ_=>by kernel_rfl
def Cz(k:Nat):=gp "touched" 33 1 k
def CB(k:Nat):=gp "touches" 34 3 k
def JP(k:Nat):=gp "touch" 35 6 k
def rp(k:Nat):=gp "touch_whole" 36 4 k
def CD(k:Nat):=gp "at_acts" 37 2 k
def qi(k:Nat):=gp "operand_acts" 38 2 k
noncomputable def mi(c:CT):=mh (Um txt "target_acts" (top 39) c)
theorem rA:Rn "target_acts" mi 2:=λ_=>by kernel_rfl
def zU(k:Nat):=gp "put_acts" 40 2 k
def zV(k:Nat):=gp "set_acts" 41 2 k
def vQ(k:Nat):=gp "copy_acts" 42 2 k
def vR(k:Nat):=gp "move_acts" 43 2 k
def vT(k:Nat):=gp "drop_acts" 44 2 k
def vU(k:Nat):=gp "lend_acts" 45 2 k
def vV(k:Nat):=gp "call_acts" 46 3 k
def CF(k:Nat):=gp "arg_act" 47 4 k
def vW(k:Nat):=gp "owner_act" 48 2 k
def CG(k:Nat):=gp "if_acts" 49 2 k
def CH(k:Nat):=gp "go_acts" 50 2 k
def zW(k:Nat):=gp "say_acts" 51 2 k
def mj(k:Nat):=gp "give_acts" 52 2 k
noncomputable def qK(c:CT):=mh (oH "empties" 55 [3] c)
noncomputable def JQ(c:CT):Gx dM :=
 (eS (di (bnd Qb (bJ 0 2 (c "acts"))) (aW 5))
  (eS (di (bnd Qb (bJ 0 2 (c "nexts"))) (aW 4))
  (eS (di (bnd (ay Qe (bg [])) (bJ 1 1 (c "empty_at_first"))) (aW 2))
  (eS (BQ (jr (bnd Qb (bJ 0 2 (c "come_to")))) (aW 3) (qK c))
  (retS (Jy (λa n=>er (XM txt oG c a n) 5) (rd 2) (bnd Qg (bJ 0 3 (c "stays_empty"))) [some 4,some 5]))))))
theorem CI:Rn "empties" JQ 6:=λ_=>by kernel_rfl
noncomputable def ng(c:CT):=mh (oH "empty_at_first" 56 [1] c)
def nh(k:Nat):=gp "empty_at_first" 56 5 k
noncomputable def CJ(c:CT):=mh (oH "emptied" 57 [2] c)
def CK(k:Nat):=gp "emptied" 57 4 k
def rD(k:Nat):=gp "stays_empty" 58 3 k
def JR(k:Nat):=gp "fills" 59 3 k
def zX(k:Nat):=gp "_law_cell_at" 61 2 k
def FD(k:Nat):=gp "_law_mixed" 62 4 k
noncomputable def uL(c:CT):=mh (oH "_law_names" 63 [5,1] c)
noncomputable def uM(c:CT):=mh (oH "_law_names" 63 [5] c)
def FE(k:Nat):=gp "_law_names" 63 10 k
def FF(k:Nat):=gp "_law_shape" 64 4 k
noncomputable def qL(c:CT):=mh (oH "_law_leaves" 65 [2] c)
def qM(k:Nat):=gp "_law_leaves" 65 3 k
noncomputable def uN(c:CT):=mh (oH "_law_parts" 66 [1,0] c)
def uO(k:Nat):=gp "_law_parts" 66 4 k
noncomputable def JS(c:CT):=mh (oH "_law_lets" 67 [3] c)
def JT(k:Nat):=gp "_law_lets" 67 8 k
noncomputable def FG(c:CT):=mh (oH "_law_spots" 68 [1,3] c)
noncomputable def FH(c:CT):=mh (oH "_law_spots" 68 [1] c)
def FI(k:Nat):=gp "_law_spots" 68 8 k
noncomputable def oI(c:CT):=mh (oH "_law_numbers" 69 [1] c)
def zY(k:Nat):=gp "_law_numbers" 69 7 k
def zZ(k:Nat):=gp "_law_operand" 70 3 k
def Aa(k:Nat):=gp "_law_carried" 71 9 k
def Ab(k:Nat):=gp "_law_lending" 72 9 k
def JU(k:Nat):=gp "_law_call" 73 10 k
def uP(k:Nat):=gp "_law_small_row" 74 6 k
def NB(k:Nat):=gp "_law_row" 75 14 k
noncomputable def uQ(c:CT):=mh (Um txt "_law_program" (top 76) c)
theorem Ac:Rn "_law_program" uQ 24:=λ_=>by kernel_rfl
noncomputable def FJ(c:CT):=mh (oH "_law_first" 77 [1,0] c)
noncomputable def FK(c:CT):=mh (oH "_law_first" 77 [1] c)
def FL(k:Nat):=gp "_law_first" 77 5 k
def gG(k:Nat):=gp "_law_nexts" 78 2 k
noncomputable def oJ(c:CT):=mh (oH "_law_way" 79 [1] c)
def NC(k:Nat):=gp "_law_way" 79 5 k
noncomputable def qN(c:CT):=mh (oH "_law_starts" 80 [1] c)
def CL(k:Nat):=gp "_law_starts" 80 4 k
noncomputable def Ad(c:CT):=mh (oH "_law_touched" 81 [3] c)
def Ae(k:Nat):=gp "_law_touched" 81 5 k
noncomputable def jV(c:CT):=mh (oH "_law_emptied" 82 [3] c)
def jW(k:Nat):=gp "_law_emptied" 82 5 k
def lr(k:Nat):=gp "_law_filled" 83 2 k
noncomputable def mn(c:CT):=mh (oH "_law_at_first" 84 [1,2] c)
noncomputable def vX(c:CT):=mh (oH "_law_at_first" 84 [1] c)
def vY(k:Nat):=gp "_law_at_first" 84 6 k
noncomputable def Hv(c:CT):=mh (oH "law" 85 [5] c)
noncomputable def Si(c:CT):=mh (oH "law" 85 [8,0] c)
noncomputable def Hw(c:CT):=mh (oH "law" 85 [8,2] c)
noncomputable def Af(c:CT):=mh (oH "law" 85 [8,3] c)
noncomputable def Hx(c:CT):=mh (oH "law" 85 [8] c)
def Sj(k:Nat):=gp "law" 85 14 k
noncomputable def CM(c:CT)(ω:PV->Gx PV)(n:Nat):Gx dM :=
 (eS (iw (bnd (ay (rd 2) (ay (rd 3) (ay (MM 1 n ω (cutE (op2 bO (rd 2) (rd 4)) (bg none) (wN (za (kI 1))))) Qk))) (bJ 0 4 (c "tell_new"))))
  (di (op2 Sb (rd 4) (kI 1)) (aW 4)))
noncomputable def JV(c:CT)(ω:PV->Gx PV)(n:Nat):Gx dM :=
 (eS (di (yW (bg [])) (aW 2))
  (eS (di (MI true) (aW 3))
  (eS (iw (bnd (ay (rd 2) (ay (rd 3) (ay (rd 0) (ay (za (kI 1)) (bg []))))) (bJ 0 4 (c "tell_new"))))
  (eS (di (kI 0) (aW 4))
  (eS (jQ (toB (op2 L5 (rd 4) Q8)) (CM c ω n) WHL)
  (retS (rd 2)))))))
theorem FN(c:CT)(ω:PV->Gx PV)(n:Nat):XM txt oG c ω n=JV c ω n:=by kernel_rfl
end
abbrev S0(l:List (Option PV)):cL:=⟨l,[]⟩
section
variable {s s1:cL} {ts:Gx (List PV)} {as:List PV} {q:PV}
theorem c7{n:Nat}{g:p8}(a:Ev ts s as s1)(b:as.length=n)(c:(s1.h.isEmpty || ai as)=true)(hc:Gives (g as []) q):Ev (bnd ts (bJ 0 n g)) s q s1:=let ⟨_,_,d,e⟩:=hc;clV a b c d e
theorem gV{f:Gx dM}{n:Nat}{p:PV}{vL:List (Option PV)}{h':List aw}(e:f ⟨gY n as,[]⟩=some (.ok (.rt p),⟨vL,h'⟩))(hp:noRef p=true):Gives (er f n as []) p:=⟨p,h',gO e,Fv hp⟩
theorem gN{f:Gx dM}{n:Nat}{vL:List (Option PV)}{h':List aw}(e:f ⟨gY n as,[]⟩=some (.ok .nx,⟨vL,h'⟩)):Gives (er f n as []) .bM:=⟨.bM,h',XW e,Fv rfl⟩
end
theorem fI(h:List aw)(a b:Str):jB h (.str a) (.str b)=some (.bl (a==b)):=rfl
noncomputable def Zi:Sh->Str
 | .num=>"num"
 | .own=>"own"
 | .bN _=>"strip"
 | .bB _=>"rec"
theorem qO(h:List aw)(s:Sh):bO h (enc s) (.int 0)=some (.str (Zi s)):=by cases s<;>rfl
inductive Kn where
 | ow (s:Sh) | ho (aj9:Bool) (s:Sh)
noncomputable def hw(b:Bool):Str:=if b then "sole" else "lent"
def encK:Kn->PV
 | .ow s=>enc s
 | .ho b s=>.aq [.str (hw b),enc s]
def bQ:Kn->Sh
 | .ow s=>s
 | .ho _ s=>s
noncomputable def fq:Kn->Bool
 | .ow _=>false
 | .ho _ _=>true
theorem rY(d:Kn):noRef (encK d)=true:=by
 cases d with
 | ow s=>exact dh s
 | ho b s=>simp[encK,noRef,ai,dh]
theorem Sk(d:Kn):((bO [] (encK d) (.int 0)).bind λw=>kq false [] w (.aq [.str "lent",.str "sole"]))=some (.bl (fq d)):=by
 cases d with
 | ow s=>cases s<;>kernel_rfl
 | ho b s=>cases b<;>kernel_rfl
theorem fO(k:Nat)(d:Kn):Gives (run txt (k+1) "is_holder" [encK d] []) (.bl (fq d)):=by
 rw[vO];obtain⟨w,a,b⟩:=mE.mp (Sk d);exact gV (rS (b2 (b2 rfl rfl a) rfl b)) rfl
theorem FO(k:Nat)(d:Kn):Gives (run txt (k+2) "shape_of" [encK d] []) (enc (bQ d)):=by
 rw[zR];have h:=fO k d;refine gV (vL:=[some (encK d)]) (h':=[]) (rS (eI (tR (c7 (cA rfl rfl) rfl rfl h) rfl) ?_)) (dh _);cases d with
 | ow s=>rfl
 | ho b s=>rfl
abbrev Rk:=Str×Kn
def bC(r:Rk):PV:=.aq [.str r.1,encK r.2]
def oK:List Rk->Str->Option Kn
 | [],_=>none
 | r::l,x=>if r.1=x then some r.2 else oK l x
theorem jy:∀(l:List Rk) (r:Rk),(l.map (·.1)).Nodup->r∈l->oK l r.1=some r.2
 | s::l,r,a,h=>by
  rw[aO,iX]at a;rcases aU.mp h with rfl | h
  ·rw[oK,if_pos rfl]
  ·rw[oK,if_neg,jy l r a.2 h];intro e;exact a.1 (aE.mpr ⟨r,h,e.symm⟩)
theorem xq(c:CT)(f:Option PV)(x:Str):∀(R:List Rk) (b g:Option PV) (d:Kn),oK R x=some d->∃i,c9 Qs (Cv c) (R.map bC) (S0 [f,some (.str x),b,g])=some (.ok (.rt (encK d)),S0 i)
 | [],_,_,_,h=>by cases h
 | r::R,b,g,d,h=>by
  have t:jP 2 Q0 (bC r) (S0 [f,some (.str x),b,g])=some (S0 [f,some (.str x),some (.str r.1),some (encK r.2)]):=rfl;have e:Ek (toB (op2 jB (rd 2) (rd 1))) (S0 [f,some (.str x),some (.str r.1),some (encK r.2)]) (r.1==x):=bT (b2 rfl rfl (fI _ _ _));unfold oK at h;by_cases a:r.1=x
  ·rw[if_pos a]at h;cases h;rw[show(r.1==x)=true by rw[a];exact mJ x]at e
   exact⟨_,fR t (iT e (rS rfl))⟩
  ·rw[if_neg a]at h;obtain⟨i,ih⟩:=xq c f x R (some (.str r.1)) (some (encK r.2)) d h;rw[show(r.1==x)=false by rw[fV];exact a]at e
   exact⟨i,fC t (iF e rfl) ih⟩
def DC(nm res a:PV)(b R2:List Rk):PV:=.aq [nm,.aq (b.map bC),res,.aq (R2.map bC),a]
theorem aT{h:List aw}{ps a:List PV}(b:ps.length+a.length<=4000000):fj h (.aq ps) (.aq a)=some (.aq (ps++a)):=if_pos (show ps.length+a.length<=gu from b)
theorem JW(k:Nat)(n res a:PV)(b R2:List Rk)(x:Str)(d:Kn)(hd:oK (b++R2) x=some d)(h:b.length+R2.length<=1000):Gives (run txt (k+1) "kind_of" [DC n res a b R2,.str x] []) (encK d):=by
 rw[Cw];obtain⟨f,e⟩:=xq (run txt k) (some (DC n res a b R2)) x (b++R2) none none d hd;have c:fj [] (.aq (b.map bC)) (.aq (R2.map bC))=some (.aq ((b++R2).map bC)):=by
  rw[cf];exact aT (by simp;lia)
 exact gV (nz (fS (sV (b2 (b2 rfl rfl rfl) (b2 rfl rfl rfl) c) rfl) e)) (rY d)
theorem LA:eK (run txt):=⟨λk=>FA k⟩
theorem rZ{ps:List Sh}{i:Int}{y:Sh}(a:0<=i)(b:ps[i.toNat]?=some y):L2.lF (bU ps) i=some (enc y):=by
 have:=atI_nat (xs:=bU ps) (by rw[jw,bP,b];rfl)
 rw[kG a]at this;exact this
theorem lu{s:Sh}{i:Int}{x:Sh×Int}(h:Kw s i=some x):∃ps,s=.bB ps/\0<=i/\ps[i.toNat]?=some x.1/\x.2=((gP (ps.take i.toNat)).length:Int):=by
 cases s with
 | bB ps =>
  simp only[Kw]at h;by_cases a:0<=i
  ·rw[if_pos a]at h;cases b:ps[i.toNat]? with
   | none=>rw[b]at h;simp at h
   | some y=>rw[b]at h;simp at h;subst h;exact⟨ps,rfl,a,b,rfl⟩
  ·rw[if_neg a]at h;cases h
 | num=>simp[Kw]at h
 | own=>simp[Kw]at h
 | bN n=>simp[Kw]at h
theorem ND{ps:List Sh}{y:Sh}(h:y∈ps):dp y<=qF ps:=by
 induction ps with
 | nil=>cases h
 | cons z zs ih =>
  simp only[qF];rcases aU.mp h with rfl | hm
  ·lia
  ·have:=ih hm
   lia
mutual
theorem uR:∀(s:Sh),∀r∈tab s,r.2.2.1=sz r.2.2.2
 | .num,r,h=>by simp[tab]at h;subst h;simp[sz,lv]
 | .own,r,h=>by simp[tab]at h;subst h;simp[sz,lv]
 | .bN n,r,h=>by simp[tab]at h;subst h;simp[sz,lv]
 | .bB a,r,h=>by
  simp only[tab,aU]at h;rcases h with rfl | h
  ·simp[sz,lv]
  ·exact Hy a 0 0 r h
theorem Hy:∀(l:List Sh) (k:Nat) (a:Int),∀r∈tabs k a l,r.2.2.1=sz r.2.2.2
 | [],_,_,r,h=>by simp[tabs]at h
 | s::l,k,a,r,h=>by
  simp only[tabs,bI,aE]at h;rcases h with⟨b,h0,rfl⟩ | h
  ·exact uR s b h0
  ·exact Hy l _ _ r h
end
mutual
theorem qj:∀(s:Sh),∀r∈tab s,dp r.2.2.2<=dp s/\(lv r.2.2.2).length<=(lv s).length
 | .num,r,h=>by simp[tab]at h;subst h;simp
 | .own,r,h=>by simp[tab]at h;subst h;simp
 | .bN n,r,h=>by simp[tab]at h;subst h;simp
 | .bB a,r,h=>by
  simp only[tab,aU]at h;rcases h with rfl | h
  ·simp
  ·have:=Hz a 0 0 r h;simp only[dp,lv]
   lia
theorem Hz:∀(l:List Sh) (k:Nat) (a:Int),∀r∈tabs k a l,dp r.2.2.2<=qF l/\(lv r.2.2.2).length<=(gP l).length
 | [],_,_,r,h=>by simp[tabs]at h
 | s::l,k,a,r,h=>by
  simp only[tabs,bI,aE]at h;simp only[qF,gP,aX];rcases h with⟨b,h0,rfl⟩ | h
  ·have:=qj s b h0;simp only[oE]
   lia
  ·have:=Hz l _ _ r h
   lia
end
section
variable {s s1 s2 s3:cL} {fa fb fc:Gx PV} {x y z r:PV}
theorem eCh{g a:G2}(b:Ev fa s x s1)(c:Ev fb s1 y s2)(h1:g s2.h x y=some (.bl true))(hc:Ev fc s2 z s3)(d:a s3.h y z=some r):Ev (chain g a fa fb fc) s r s3 :=
 eB b (eB c (eB (by show((g s2.h x y).bind wK).map _=_;rw[h1];rfl) (by rw[if_pos rfl];exact eB hc (by show(a s3.h y z).map _=_;rw[d];rfl))))
end
theorem le_int(h:List aw)(i j:Int):leO h (.int i) (.int j)=some (.bl (decide (i<=j))):=rfl
theorem lt_int(h:List aw)(i j:Int):L5 h (.int i) (.int j)=some (.bl (decide (i<j))):=rfl
theorem HA(k:Nat){s:Sh}{i:Int}{x:Sh×Int}(c:Kw s i=some x):Gives (run txt (k+1) "check_part" [enc s,.int i] []) .bM:=by
 obtain⟨a,rfl,d,e,_⟩:=lu c;rw[uJ];have h:i.toNat<a.length:=(bW.mp e).1;have f:leO [] (.int 0) (.int i)=some (.bl true):=by rw[le_int,dE d]
 have g:L5 [] (.int i) (.int ((bU a).length:Int))=some (.bl true):=by rw[lt_int,dE (by rw[eJ];lia)]
 exact gN (sq (iF (s1:=S0 [some (enc (.bB a)),some (.int i)]) (bT (by kernel_rfl)) rfl) (iF (nB (b:=true) (bT (eCh rfl rfl f (bV (cA (b2 rfl rfl rfl) rfl) rfl) g))) rfl))
theorem xt(k:Nat)(A P:Option PV):∀(p:List Int) (s:Sh) (a:Int) (o:Option PV) (b:Sh) (c:Int),walk s a p=some (b,c)->∃d,c9 (aW 3) (Ny (run txt (k+1))) (p.map .int) (S0 [A,P,some (enc s),o])=some (.ok .nx,S0 [A,P,some (enc b),d])
 | [],s,a,o,b,c,h=>by
  simp[walk]at h;obtain⟨rfl,rfl⟩:=h;exact⟨o,rfl⟩
 | i::p,s,a,o,b,c,h=>by
  obtain⟨x,e,hw⟩:=mE.mp (show(Kw s i).bind (λx=>walk x.1 (a+x.2) p)=some (b,c)from h)
  have hc:=HA k e;obtain⟨l,rfl,f,g,_⟩:=lu e;obtain⟨d,q⟩:=xt k A P p x.1 (a+x.2) (some (.int i)) b c hw;have j:=rZ f g;exact⟨d,fC rfl (sq (dS (c7 (cA rfl (cA rfl rfl)) rfl rfl hc)) (aS (b2 (b2 rfl rfl rfl) rfl j) rfl)) q⟩
theorem X6(k:Nat)(s:Sh)(p:List Int)(x:Sh×Int)(h:walk s 0 p=some x):Gives (run txt (k+2) "part" [enc s,.aq (p.map .int)] []) (enc x.1):=by
 rw[Nz];obtain⟨a,q⟩:=xt k (some (enc s)) (some (.aq (p.map .int))) p s 0 none x.1 x.2 h;exact gV (sq (aS rfl rfl) (sq (fS rfl q) (rS rfl))) (dh _)
theorem Sl(l:List Sh):(l.map λs=>((lv s).length:Int)).sum=((gP l).length:Int):=by
 induction l with
 | nil=>simp[gP]
 | cons s l ih=>simp[gP,ih]
theorem qk:∀a:List Int,l9 (a.map .int)=some a
 | []=>rfl
 | n::r=>by
  have e:dj oh (r.map PV.int)=some r:=qk r;simp only[l9,aO,dj,oh,dO,e,gT]
theorem JX(h:List aw)(a:List Int):Jd h [.lst (a.map .int)]=some (.int a.sum):=by
 show(l9 _).map _=_;rw[qk];rfl
theorem FP(ps:List PV)(q:Nat):km ps none (some (q:Int))=ps.take q:=by
 unfold km;rw[HT.yJ,HT.Bh,List.drop_zero,Nat.sub_zero];by_cases h:q<=ps.length
 ·rw[Nat.min_eq_left h]
 ·rw[Nat.min_eq_right (by lia),pj (by lia),pj (by lia)]
theorem cM{c:Type}{link:List (Option Nat)}{fi:Gx AM}{bd:Bd}{s s1:cL}{l:List c}{e G:c->PV}(f:Ev fi s (.sq (l.map e)) s1)(g:l.length<=4000000)(d:∀a∈l,bd (bX link s1.ρ) (e a) s1.h=some (some (G a),s1.h)):Ev (dH false link fi bd) s (.lst (l.map G)) s1:=eB f (by
 have:∀l:List c,(∀a∈l,bd (bX link s1.ρ) (e a) s1.h=some (some (G a),s1.h))->fL (bd (bX link s1.ρ)) (l.map e) s1.h=some (l.map G,s1.h):=by
  intro l;induction l with
  | nil=>intro _;rfl
  | cons a l ih =>
   intro H;show(bd (bX link s1.ρ) (e a) s1.h).bind _=_;rw[H a aM];show(fL (bd (bX link s1.ρ)) (l.map e) s1.h).map _=_;rw[ih λb d=>H b (aK _ d)]
   rfl
 show(if(l.map e).length<=gu then fL _ (l.map e) s1.h else none).bind _=_
 rw[if_pos (show(l.map e).length<=gu by rw[ao];exact g),this l d]
 rfl)
theorem cE{b:Gx PV}{c d:Gx (Option Int)}{s s1 s2 a:cL}{p q:PV}{l h:Option Int}(h1:Ev b s p s1)(e:Ev c s1 l s2)(f:Ev d s2 h a)(g:IZ a.h l h p=some q):Ev (cutE b c d) s q a:=eB h1 (eB e (eB f (by show(IZ a.h l h p).map _=_;rw[g];rfl)))
theorem Sn(k:Nat)(ps:List Sh)(q:Nat)(hd:qF ps<=k)(h:(gP ps).length<=1000)(i:ps.length<=1000)(a b d:Option PV) :
  Ek (gL Jd (ay (dH false [none,none] (jr (cutE Ql (bg none) (wN (rd 4)))) (lU (aW 1) (gL gX (ay (bnd Q1 (bJ 0 1 (run txt (k+1) "leaves"))) (bg []))))) (bg []))) (S0 [a,b,some (enc (.bB ps)),d,some (.int (q:Int))]) (.int ((gP (ps.take q)).length:Int)):=by
 have c:=JX [] ((ps.take q).map λs=>((lv s).length:Int))
 rw[Sl,cy]at c;have e:IZ [] none (some (q:Int)) (.aq (bU ps))=some (.aq ((ps.take q).map enc)):=by
  show some (PV.aq (km (bU ps) none (some (q:Int))))=_;rw[FP,jw,yw]
 refine bV (cA (cM (sV (cE (b2 rfl rfl rfl) rfl rfl e) rfl) (by rw[iW];lia) λs f=>?_) rfl) c
 have g:=eK.each LA ps k hd (by lia) s (DT f)
 refine e1 rfl (bV (cA (c7 (cA rfl rfl) rfl rfl g) rfl) ?_);show some (PV.int ((bU (lv s)).length:Int))=_;rw[eJ];rfl
theorem uS(k:Nat)(A P:Option PV):∀(p:List Int) (s:Sh) (a:Int) (o:Option PV) (c:Sh) (d:Int),(tab s).length<=500->dp s<=k->walk s a p=some (c,d)->∃e,c9 (aW 4) (JM (run txt (k+1))) (p.map .int) (S0 [A,P,some (enc s),some (.int a),o])=some (.ok .nx,S0 [A,P,some (enc c),some (.int d),e])
 | [],s,a,o,c,d,_,_,h=>by
  simp[walk]at h;obtain⟨rfl,rfl⟩:=h;exact⟨o,rfl⟩
 | i::p,s,a,o,c,d,ht,hd,h=>by
  obtain⟨x,f,hw⟩:=mE.mp (show(Kw s i).bind (λx=>walk x.1 (a+x.2) p)=some (c,d)from h)
  have hc:=HA k f;obtain⟨b,rfl,g,j,r⟩:=lu f;have l:x.1∈b:=dc j;have C:=xj l;have t:(tab (.bB b)).length=iI b+1:=by simp only[tab,aN,gQ]
  have u:=zQ b;have v:=uD b;have w:=ND l;have y:qF b+1<=k:=by simpa only[dp]using hd
  obtain⟨e,q⟩:=uS k A P p x.1 (a+x.2) (some (.int i)) c d (by lia) (by lia) hw
  have m:=Sn k b i.toNat (by lia) (by lia) (by lia) A P (some (.int a))
  rw[kG g,<-r]at m;have B:=rZ g j;exact⟨e,fC rfl (sq (dS (c7 (cA rfl (cA rfl rfl)) rfl rfl hc)) (sq (aS (b2 rfl m rfl) rfl) (aS (b2 (b2 rfl rfl rfl) rfl B) rfl))) q⟩
theorem So(k:Nat)(s:Sh)(p:List Int)(x:Sh×Int)(ht:(tab s).length<=500)(hd:dp s<=k)(h:walk s 0 p=some x):Gives (run txt (k+2) "first" [enc s,.aq (p.map .int)] []) (.int x.2):=by
 rw[JN];obtain⟨a,q⟩:=uS k (some (enc s)) (some (.aq (p.map .int))) p s 0 none x.1 x.2 ht hd h;exact gV (sq (aS rfl rfl) (sq (aS rfl rfl) (sq (fS rfl q) (rS rfl)))) rfl
structure cP where
 w:Str
 n:Str
 t:Bool
 f:Int
 m:Int
 k:Str
def lX(a:cP):PV:=.aq [.str a.w,.str a.n,.bl a.t,.int a.f,.int a.m,.str a.k]
noncomputable def CN:cP:=⟨"rest","",false,0,0,""⟩
noncomputable def xu:cP:=⟨"hand","",false,0,0,""⟩
def NH(x:Str)(b:Bool)(p:List Int)(a:PV):PV:=.aq [.str x,.bl b,.aq (p.map .int),a]
def Ag(s:Sh):Prop:=(tab s).length<=100/\dp s<=3
def uT(F:PV)(ks:List Rk):Prop:=∀k,∀r∈ks,Gives (run txt (k+1) "kind_of" [F,.str r.1] []) (encK r.2)
def tA(w x:Str)(d:Kn)(r:Rw)(t:Str):cP:=⟨w,x,fq d,r.2.1,r.2.2.1,t⟩
theorem LC(n res a:PV)(b R2:List Rk)(h:b.length+R2.length<=1000)(c:((b++R2).map (·.1)).Nodup):uT (DC n res a b R2) (b++R2):=λk r d=>JW k n res a b R2 r.1 r.2 (jy _ r c d) h
theorem gI{F:PV}{ks:List Rk}(hF:uT F ks)(k:Nat)(hk:3<=k)(w t:Str){x:Str}{d:Kn}(f:(x,d)∈ks)(b:Ag (bQ d)){r:Rw}(c:r∈tab (bQ d))(a:PV):Gives (run txt (k+3) "touch" [F,.str w,NH x (fq d) r.1 a,.str t] []) (lX (tA w x d r t)):=by
 rw[JP];have hw:=uE (bQ d) r c 0;have hd:=qj (bQ d) r c;have p:=xi (bQ d);have g:=hF (k+1) (x,d) f;have h:=FO k d;have i:=X6 k (bQ d) r.1 _ hw;have j:=eK.all LA r.2.2.2 (k+1) (by have:=b.2;lia) (by have:=b.1;lia)
 have e:=So k (bQ d) r.1 _ (by have:=b.1;lia) (by have:=b.2;lia) hw
 have l:=uR (bQ d) r c;have m:0+r.2.1=r.2.1:=by lia
 rw[m]at e;have o:gX [] [.aq (bU (lv r.2.2.2))]=some (.int r.2.2.1):=by
  show some (PV.int ((bU (lv r.2.2.2)).length:Int))=_;rw[eJ,l];rfl
 exact gV (sq (aS (c7 (cA (c7 (cA rfl (cA (b2 rfl rfl rfl) rfl)) rfl rfl g) rfl) rfl rfl h) rfl)
  (sq (aS (bV (cA (c7 (cA (c7 (cA rfl (cA (b2 rfl rfl rfl) rfl)) rfl rfl i) rfl) rfl rfl j) rfl) o) rfl)
  (rS (tU (cA rfl (cA (b2 rfl rfl rfl) (cA (b2 rfl rfl rfl) (cA (c7 (cA rfl (cA (b2 rfl rfl rfl) rfl)) rfl rfl e) (cA rfl (cA rfl rfl)))))) (by simp))))) rfl
theorem gR(s:Sh):(([],0,sz s,s):Rw)∈tab s:=by
 obtain⟨L,e⟩:=Co s;rw[e];exact aM
theorem fy{F:PV}{ks:List Rk}(hF:uT F ks)(k:Nat)(hk:3<=k)(w t:Str){x:Str}{d:Kn}(a:(x,d)∈ks)(b:Ag (bQ d)):Gives (run txt (k+4) "touch_whole" [F,.str w,.str x,.str t] []) (lX (tA w x d ([],0,sz (bQ d),bQ d) t)):=by
 rw[rp];have c:=hF (k+2) (x,d) a;have e:=fO (k+2) d;have f:=gI hF k hk w t a b (gR (bQ d)) .bM;exact gV (rS (c7 (cA rfl (cA rfl (cA (tU (cA rfl (cA (c7 (cA (c7 (cA rfl (cA rfl rfl)) rfl rfl c) rfl) rfl rfl e) (cA (tU rfl (by simp)) (cA rfl rfl)))) (by simp)) (cA rfl rfl)))) rfl rfl f)) rfl
def fQ(as:List cP):PV:=.lst (as.map lX)
theorem af7(a:cP):noRef (lX a)=true:=rfl
theorem NI:∀as:List cP,ai (as.map lX)=true
 | []=>rfl
 | a::as=>by simp[ai,af7,NI as]
theorem CP(as:List cP):noRef (fQ as)=true:=by simp[fQ,noRef,NI]
theorem aL{h:List aw}{ps a:List PV}(b:ps.length+a.length<=4000000):fj h (.lst ps) (.lst a)=some (.lst (ps++a)):=by
 have e:fj h (.lst ps) (.lst a)=sizeOk (ps.length+a.length) (.lst (ps++a)):=rfl;rw[e];exact if_pos (show ps.length+a.length<=gu from b)
theorem lE(as bs:List cP)(h:List aw)(a:as.length+bs.length<=1000):fj h (fQ as) (fQ bs)=some (fQ (as++bs)):=by
 unfold fQ;rw[cf];exact aL (by simp only[ao];lia)
inductive vZ (ks:List Rk):PV->Prop
 | bM:vZ ks .bM
 | int (i:Int):vZ ks (.int i)
 | str (y:Str) (h:(y,Kn.ow .num)∈ks):vZ ks (.str y)
noncomputable def Kx:PV->List cP
 | .str y=>[⟨"read",y,false,0,1,""⟩]
 | _=>[]
theorem xw{F:PV}{ks:List Rk}(hF:uT F ks)(k:Nat)(hk:3<=k)(x:Str)(c:Bool)(p:List Int){a:PV}(d:vZ ks a):Gives (run txt (k+5) "at_acts" [F,NH x c p a] []) (fQ (Kx a)):=by
 rw[CD];cases d with
 | bM=>exact gV (nz (iT (nB (tR (p:=.bl false) (by rfl) rfl)) (rS rfl))) rfl
 | int i=>exact gV (nz (iT (nB (tR (p:=.bl false) (by rfl) rfl)) (rS rfl))) rfl
 | str y h =>
  have b:=fy hF k hk "read" "" h ⟨by simp[bQ,tab],by simp[bQ,dp]⟩
  have e:tA "read" y (.ow .num) ([],0,sz (bQ (.ow .num)),bQ (.ow .num)) ""=⟨"read",y,false,0,1,""⟩:=by
   simp[tA,fq,bQ,sz,lv]
  rw[e]at b;exact gV (sq (iF (nB (tR (p:=.bl true) (by rfl) rfl)) rfl) (rS (lS (cA (c7 (cA rfl (cA rfl (cA (b2 rfl rfl rfl) (cA rfl rfl)))) rfl rfl b) rfl) (by show 1<=4000000;decide)))) rfl
structure Sp where
 x:Str
 d:Kn
 r:Rw
 a:PV
def bH(s:Sp):PV:=NH s.x (fq s.d) s.r.1 s.a
structure cO (ks:List Rk) (s:Sp):Prop where
 mem:(s.x,s.d)∈ks
 ok:Ag (bQ s.d)
 row:s.r∈tab (bQ s.d)
 at_:vZ ks s.a
def ql(w:Str)(s:Sp)(t:Str):cP:=tA w s.x s.d s.r t
inductive Op where
 | n (i:Int) | s (s:Sp)
def fU:Op->PV
 | .n i=>.int i
 | .s s=>bH s
def ez(ks:List Rk):Op->Prop
 | .n _=>True
 | .s s=>cO ks s
def qm:Op->List cP
 | .n _=>[]
 | .s s=>Kx s.a++[ql "read" s ""]
theorem Ah(a:PV):(Kx a).length<=1:=by
 unfold Kx;split<;>simp
theorem dI{F:PV}{ks:List Rk}(hF:uT F ks)(k:Nat)(hk:3<=k){o:Op}(ho:ez ks o):Gives (run txt (k+6) "operand_acts" [F,fU o] []) (fQ (qm o)):=by
 rw[qi];cases o with
 | n i=>exact gV (nz (iT (nB (tR (p:=.bl false) (by rfl) rfl)) (rS rfl))) rfl
 | s s =>
  obtain⟨b,c,e,f⟩:=ho;have e1:=xw hF k hk s.x (fq s.d) s.r.1 f;have g:=gI hF (k+2) (by lia) "read" "" b c e s.a
  have h:=Ah s.a;exact gV (sq (iF (nB (tR (p:=.bl true) (by rfl) rfl)) rfl) (rS (b2 (c7 (cA rfl (cA rfl rfl)) rfl rfl e1) (lS (cA (c7 (cA rfl (cA rfl (cA rfl (cA rfl rfl)))) rfl rfl g) rfl) (by simp)) (lE (Kx s.a) [ql "read" s ""] [] (by simp;lia))))) (CP _)
def CQ(s:Sp):List cP:=match s.a with
 | .bM=>[ql "fill" s ""]
 | a=>Kx a++[ql "turn" s ""]
theorem mq{F:PV}{ks:List Rk}(hF:uT F ks)(k:Nat)(hk:3<=k){s:Sp}(g:cO ks s):Gives (run txt (k+6) "target_acts" [F,bH s] []) (fQ (CQ s)):=by
 rw[rA];obtain⟨b,c,e,f⟩:=g;have e1:=xw hF k hk s.x (fq s.d) s.r.1 f;have j:=gI hF (k+2) (by lia) "fill" "" b c e s.a
 have l:=gI hF (k+2) (by lia) "turn" "" b c e s.a
 obtain⟨x,d,r,a⟩:=s;have m:=Ah a;have mT:∀(z:isO [] a .bM=some (.bl false)) (q:CQ ⟨x,d,r,a⟩=Kx a++[ql "turn" ⟨x,d,r,a⟩ ""]),Gives (er (mi (run txt (k+5))) 2 [F,bH ⟨x,d,r,a⟩] []) (fQ (CQ ⟨x,d,r,a⟩)):=by
  intro z q;rw[q];exact gV (sq (iF (bT (b2 (b2 rfl rfl rfl) rfl z)) rfl) (rS (b2 (c7 (cA rfl (cA rfl rfl)) rfl rfl e1) (lS (cA (c7 (cA rfl (cA rfl (cA rfl (cA rfl rfl)))) rfl rfl l) rfl) (by simp)) (lE (Kx a) [ql "turn" ⟨x,d,r,a⟩ ""] [] (by simp;lia))))) (CP _)
 cases f with
 | bM=>exact gV (nz (iT (bT (b2 (b2 rfl rfl rfl) rfl rfl)) (rS (lS (cA (c7 (cA rfl (cA rfl (cA rfl (cA rfl rfl)))) rfl rfl j) rfl) (by show 1<=4000000;decide))))) rfl
 | int i=>exact mT rfl rfl
 | str y h=>exact mT rfl rfl
theorem je(o:Op):(qm o).length<=2:=by
 cases o with
 | n i=>simp[qm]
 | s s=>have:=Ah s.a;simp[qm];lia
theorem Ai(s:Sp):(CQ s).length<=2:=by
 unfold CQ;split
 ·simp
 ·rename_i a _;have:=Ah s.a;simp
  lia
section
variable {F:PV} {ks:List Rk} (hF:uT F ks) (k:Nat) (hk:3<=k)
include hF hk
theorem FQ(w:Str){s:Sp}(a:cO ks s){o:Op}(ho:ez ks o):Gives (run txt (k+7) "put_acts" [F,.aq [.str w,bH s,fU o]] []) (fQ (qm o++CQ s)):=by
 rw[zU];have b:=dI hF k hk ho;have c:=mq hF k hk a;have d:=je o;have e:=Ai s;exact gV (rS (b2 (c7 (cA rfl (cA (b2 rfl rfl rfl) rfl)) rfl rfl b) (c7 (cA rfl (cA (b2 rfl rfl rfl) rfl)) rfl rfl c) (lE _ _ _ (by lia)))) (CP _)
theorem FT(w:Str){s:Sp}(c:cO ks s)(q:PV){a b:Op}(d:ez ks a)(e:ez ks b):Gives (run txt (k+7) "set_acts" [F,.aq [.str w,bH s,q,fU a,fU b]] []) (fQ (qm a++qm b++CQ s)):=by
 rw[zV];have f:=dI hF k hk d;have g:=dI hF k hk e;have h:=mq hF k hk c;have i:=je a;have j:=je b;have l:=Ai s;exact gV (rS (b2 (b2 (c7 (cA rfl (cA (b2 rfl rfl rfl) rfl)) rfl rfl f) (c7 (cA rfl (cA (b2 rfl rfl rfl) rfl)) rfl rfl g) (lE _ _ _ (by lia))) (c7 (cA rfl (cA (b2 rfl rfl rfl) rfl)) rfl rfl h) (lE _ _ _ (by rw[aX];lia)))) (CP _)
theorem JY(w:Str)(q:PV){a b:Op}(c:ez ks a)(d:ez ks b):Gives (run txt (k+7) "if_acts" [F,.aq [.str w,fU a,fU b,q]] []) (fQ (qm a++qm b)):=by
 rw[CG];have e:=dI hF k hk c;have f:=dI hF k hk d;have g:=je a;have h:=je b;exact gV (rS (b2 (c7 (cA rfl (cA (b2 rfl rfl rfl) rfl)) rfl rfl e) (c7 (cA rfl (cA (b2 rfl rfl rfl) rfl)) rfl rfl f) (lE _ _ _ (by lia)))) (CP _)
theorem FU(w:Str){a:Op}(b:ez ks a):Gives (run txt (k+7) "say_acts" [F,.aq [.str w,fU a]] []) (fQ (qm a)):=by
 rw[zW];have c:=dI hF k hk b;exact gV (rS (c7 (cA rfl (cA (b2 rfl rfl rfl) rfl)) rfl rfl c)) (CP _)
omit hF hk in
theorem JZ(p:PV):Gives (run txt (k+7) "go_acts" [F,p] []) (fQ []):=by
 rw[CH];exact gV (rS rfl) rfl
omit hF hk in
theorem Aj(w:Str):Gives (run txt (k+7) "give_acts" [F,.aq [.str w,.str ""]] []) (fQ []):=by
 rw[mj];exact gV (nz (iT (bT (b2 (b2 rfl rfl rfl) rfl (show jB [] (.str "") (.str "")=some (.bl true) by kernel_rfl))) (rS rfl))) rfl
theorem CS(w:Str){s t:Sp}(b:cO ks s)(ht:cO ks t):Gives (run txt (k+7) "copy_acts" [F,.aq [.str w,bH s,bH t]] []) (fQ [ql "read" t "",ql "fill" s ""]):=by
 rw[vQ];have c:=gI hF (k+3) (by lia) "read" "" ht.mem ht.ok ht.row t.a
 have d:=gI hF (k+3) (by lia) "fill" "" b.mem b.ok b.row s.a
 exact gV (rS (lS (cA (c7 (cA rfl (cA rfl (cA (b2 rfl rfl rfl) (cA rfl rfl)))) rfl rfl c) (cA (c7 (cA rfl (cA rfl (cA (b2 rfl rfl rfl) (cA rfl rfl)))) rfl rfl d) rfl)) (by simp))) rfl
theorem CU(w:Str){s t:Sp}(b:cO ks s)(ht:cO ks t):Gives (run txt (k+7) "move_acts" [F,.aq [.str w,bH s,bH t]] []) (fQ [ql "empty" t "",ql "fill" s ""]):=by
 rw[vR];have c:=gI hF (k+3) (by lia) "empty" "" ht.mem ht.ok ht.row t.a
 have d:=gI hF (k+3) (by lia) "fill" "" b.mem b.ok b.row s.a
 exact gV (rS (lS (cA (c7 (cA rfl (cA rfl (cA (b2 rfl rfl rfl) (cA rfl rfl)))) rfl rfl c) (cA (c7 (cA rfl (cA rfl (cA (b2 rfl rfl rfl) (cA rfl rfl)))) rfl rfl d) rfl)) (by simp))) rfl
theorem CV(w:Str){s:Sp}(b:cO ks s):Gives (run txt (k+7) "drop_acts" [F,.aq [.str w,bH s]] []) (fQ [ql "empty" s ""]):=by
 rw[vT];have c:=gI hF (k+3) (by lia) "empty" "" b.mem b.ok b.row s.a
 exact gV (rS (lS (cA (c7 (cA rfl (cA rfl (cA (b2 rfl rfl rfl) (cA rfl rfl)))) rfl rfl c) rfl) (by simp))) rfl
theorem CW(w t:Str){s:Sp}(b:cO ks s):Gives (run txt (k+7) "lend_acts" [F,.aq [.str w,.str t,bH s]] []) (fQ [ql w s t]):=by
 rw[vU];have c:=gI hF (k+3) (by lia) w t b.mem b.ok b.row s.a
 exact gV (rS (lS (cA (c7 (cA rfl (cA (b2 rfl rfl rfl) (cA (b2 rfl rfl rfl) (cA (b2 rfl rfl rfl) rfl)))) rfl rfl c) rfl) (by simp))) rfl
end
noncomputable def kf:Sh->Bool
 | .own=>true
 | _=>false
abbrev oP:PV:=.aq [.str "own"]
mutual
def xx:Sh->Tr
 | .num=>.aq [.str "num"]
 | .own=>.aq [.str "own"]
 | .bN n=>.aq [.str "strip",.int n]
 | .bB a=>.aq [.str "rec",.aq (oM a)]
def oM:List Sh->List Tr
 | []=>[]
 | s::l=>xx s::oM l
end
mutual
theorem toT_enc(h:List aw):∀(s:Sh) (n:Nat),2*dp s+2<n->toT h n (enc s)=some (xx s)
 | .num,n+3,_=>rfl
 | .own,n+3,_=>rfl
 | .bN _,n+3,_=>rfl
 | .bB b,n+3,a=>by
  have:=toT_encs h b (n+1) (by simp only[dp]at a;lia)
  have e1:toT h (n+2) (.str "rec")=some (.str "rec"):=rfl;have c:toT h (n+2) (.aq (bU b))=some (.aq (oM b)):=by
   show((dj (toT h (n+1)) (bU b)).bind (L7 .aq))=_;rw[this];rfl
  show((dj (toT h (n+2)) [.str "rec",.aq (bU b)]).bind (L7 .aq))=_;simp only[dj,e1,c,dO,gT,xx,L7]
 | .num,0,a=>by lia
 | .num,1,a=>by lia
 | .num,2,a=>by lia
 | .own,0,a=>by lia
 | .own,1,a=>by lia
 | .own,2,a=>by lia
 | .bN _,0,a=>by lia
 | .bN _,1,a=>by lia
 | .bN _,2,a=>by lia
 | .bB _,0,a=>by lia
 | .bB _,1,a=>by lia
 | .bB _,2,a=>by lia
theorem toT_encs(h:List aw):∀(l:List Sh) (n:Nat),2*qF l+2<n->dj (toT h n) (bU l)=some (oM l)
 | [],_,_=>rfl
 | s::l,n,a=>by
  simp only[qF]at a;have b:=toT_enc h s n (by lia)
  have c:=toT_encs h l n (by lia)
  simp only[bU,dj,b,c,dO,gT,oM]
end
theorem X7(s:Sh):eqT (xx s) (.aq [.str "own"])=kf s:=by
 cases s with
 | bB a=>show((Str.ofString "rec"==Str.ofString "own")&&nW [.aq (oM a)] [])=false;rw[show(Str.ofString "rec"==Str.ofString "own")=false by decide +kernel];rfl
 | num=>decide +kernel
 | own=>decide +kernel
 | bN n=>show((Str.ofString "strip"==Str.ofString "own")&&nW [.int n] [])=false;rw[show(Str.ofString "strip"==Str.ofString "own")=false by decide +kernel];rfl
theorem Ak:∀l:List Sh,((oM l).any λy=>eqT y (.aq [.str "own"]))=l.any kf
 | []=>rfl
 | s::l=>by rw[oM,jG,jG,Ak l,X7]
def NJ(s:Sh):Bool:=!(lv s).any kf
theorem oN:∀{l:List Sh},(∀x∈l,jd x=true)->qF l=0
 | [],_=>rfl
 | s::l,h=>by
  have b:=(Fu (h s aM)).2;have c:=oN λx a=>h x (aK _ a)
  simp only[qF]
  lia
theorem X8(s:Sh):kq true [] oP (.aq (bU (lv s)))=some (.bl (NJ s)):=by
 have hd:=oN (rV s);have e:=toT_encs [] (lv s) gi (by rw[hd];decide)
 have a:Ks [] oP (bU (lv s))=some ((lv s).any kf):=by
  unfold Ks;rw[e,show toT [] gi oP=some (.aq [.str "own"])from rfl,<-Ak]
  rfl
 have e1:kq true [] oP (.aq (bU (lv s)))=(Ks [] oP (bU (lv s))).map λb=>.bl (if true=true then !b else b):=rfl
 rw[e1,a];unfold NJ;cases(lv s).any kf<;>rfl
def oW(s:Sh):Str:=if NJ s=true then "read" else "empty"
abbrev Al(s:Sh):Rw:=([],0,sz s,s)
def X9(x:Str)(d:Kn)(t:Str):cP:=match d with
 | .ow s=>tA (oW s) x (.ow s) (Al s) ""
 | .ho b s=>tA (if b=true then "sole" else "lend") x (.ho b s) (Al s) t
def gvA(x:Str)(d:Kn):cP:=match d with
 | .ow s=>tA (oW s) x (.ow s) (Al s) ""
 | .ho b s=>tA "give" x (.ho b s) (Al s) ""
theorem CY(k:Nat)(s:Sh)(hd:dp s<=k)(hz:(lv s).length<=4000000):Gives (run txt (k+2) "is_copied" [enc s] []) (.bl (NJ s)):=by
 rw[vM];have h:=eK.all LA s k hd hz;exact gV (rS (b2 (tU (cA rfl rfl) (by simp)) (c7 (cA rfl rfl) rfl rfl h) (X8 s))) rfl
section
variable {F:PV} {ks:List Rk} (hF:uT F ks) (k:Nat) (hk:3<=k)
include hF hk
theorem qP{x:Str}{s:Sh}(b:(x,Kn.ow s)∈ks)(a:Ag s):Gives (run txt (k+5) "owner_act" [F,.str x] []) (lX (tA (oW s) x (.ow s) (Al s) "")):=by
 rw[vW];have c:=hF (k+3) _ b;have f:=xi s;have d:=CY (k+2) s (by have:=a.2;lia) (by have:=a.1;lia)
 have e:=fy hF k hk (oW s) "" b a;have hw:Ek (eH (iu (bnd (ay (bnd Qb (bJ 0 2 (run txt (k+4) "kind_of"))) (bg [])) (bJ 0 1 (run txt (k+4) "is_copied")))) (bg (PV.str "read")) (bg (PV.str "empty"))) (S0 [some F,some (.str x)]) (PV.str (oW s)):=by
  refine eI (tR (c7 (cA (c7 (cA rfl (cA rfl rfl)) rfl rfl c) rfl) rfl rfl d) rfl) ?_;unfold oW;cases NJ s<;>rfl
 exact gV (rS (c7 (cA rfl (cA hw (cA rfl (cA rfl rfl)))) rfl rfl e)) rfl
theorem J0{x:Str}{d:Kn}(a:(x,d)∈ks)(e:Ag (bQ d))(t:Str):Gives (run txt (k+6) "arg_act" [F,.str x,.str t] []) (lX (X9 x d t)):=by
 rw[CF];have h:=hF (k+4) _ a;have i:=fO (k+4) d;have f:Ev (di (bnd Qb (bJ 0 2 (run txt (k+5) "kind_of"))) (aW 3)) (S0 [some F,some (.str x),some (.str t),none]) .nx (S0 [some F,some (.str x),some (.str t),some (encK d)]):=aS (c7 (cA rfl (cA rfl rfl)) rfl rfl h) rfl;have g:Ek (ER (iu (bnd Q6 (bJ 0 1 (run txt (k+5) "is_holder"))))) (S0 [some F,some (.str x),some (.str t),some (encK d)]) (!fq d):=nB (tR (c7 (cA rfl rfl) rfl rfl i) rfl);cases d with
 | ow s =>
  have c:=qP hF k hk a e;exact gV (sq f (nz (iT g (rS (c7 (cA rfl (cA rfl rfl)) rfl rfl c))))) rfl
 | ho b s =>
  have c:=fy hF (k+1) (by lia) (if b=true then "sole" else "lend") t a e
  have hw:Ek (eH (toB (op2 jB (op2 bO (rd 3) (kI 0)) (bg (PV.str "lent")))) (bg (PV.str "lend")) (bg (PV.str "sole"))) (S0 [some F,some (.str x),some (.str t),some (encK (.ho b s))]) (PV.str (if b=true then "sole" else "lend")):=by
   cases b with
   | false=>exact iT (bT (b2 (b2 rfl rfl rfl) rfl (show jB [] (.str (hw false)) (.str "lent")=some (.bl true) by kernel_rfl))) rfl
   | true=>exact iF (bT (b2 (b2 rfl rfl rfl) rfl (show jB [] (.str (hw true)) (.str "lent")=some (.bl false) by kernel_rfl))) rfl
  exact gV (sq f (sq (iF g rfl) (rS (c7 (cA rfl (cA hw (cA rfl (cA rfl rfl)))) rfl rfl c)))) rfl
theorem CZ(w:Str){x:Str}{d:Kn}(a:(x,d)∈ks)(f:Ag (bQ d))(c:(x==(Str.ofString ""))=false):Gives (run txt (k+7) "give_acts" [F,.aq [.str w,.str x]] []) (fQ [gvA x d]):=by
 rw[mj];have i:=hF (k+5) _ a;have j:=fO (k+5) d;have g:Ek Qp (S0 [some F,some (.aq [.str w,.str x])]) false:=by
  refine bT (b2 (b2 rfl rfl rfl) rfl ?_);rw[fI,c]
 have h:Ek (iu (bnd (ay (bnd Qz (bJ 0 2 (run txt (k+6) "kind_of"))) (bg [])) (bJ 0 1 (run txt (k+6) "is_holder")))) (S0 [some F,some (.aq [.str w,.str x])]) (fq d):=tR (c7 (cA (c7 (cA rfl (cA (b2 rfl rfl rfl) rfl)) rfl rfl i) rfl) rfl rfl j) rfl;cases d with
 | ow s =>
  have e:=qP hF (k+1) (by lia) a f
  exact gV (sq (iF g rfl) (sq (iF h rfl) (rS (lS (cA (c7 (cA rfl (cA (b2 rfl rfl rfl) rfl)) rfl rfl e) rfl) (by simp))))) rfl
 | ho b s =>
  have e:=fy hF (k+2) (by lia) "give" "" a f
  exact gV (sq (iF g rfl) (nz (iT h (rS (lS (cA (c7 (cA rfl (cA rfl (cA (b2 rfl rfl rfl) (cA rfl rfl)))) rfl rfl e) rfl) (by simp)))))) rfl
end
noncomputable abbrev sI(i:Nat):Str:=Str.ofString (toString (i:Int))
def lY:Nat->List Rk->List cP
 | _,[]=>[]
 | i,r::l=>X9 r.1 r.2 (sI i)::lY (i+1) l
theorem uU:∀(l:List Rk) (i:Nat),(lY i l).length=l.length
 | [],_=>rfl
 | r::l,i=>by simp[lY,uU l]
def v9:Option Rk->List cP
 | none=>[]
 | some (x,.ow s)=>[tA "fill" x (.ow s) (Al s) ""]
 | some (x,.ho _ _)=>[⟨"take","",false,0,0,x⟩]
def FV:Option Rk->Str
 | none=>""
 | some r=>r.1
def Yb(ks:List Rk):Prop:=∀q∈ks,Ag (bQ q.2)
theorem aca(h:List aw)(i:Nat)(a:i<1000):Jc h [.int (i:Int)]=some (.str (sI i)):=if_pos ⟨by lia,by lia⟩
theorem cF{bd:PV->List aw->Option (Option PV×List aw)}{h:List aw}{c:Type}{e G:c->PV}:∀l:List c,(∀a∈l,bd (e a) h=some (some (G a),h))->fL bd (l.map e) h=some (l.map G,h)
 | [],_=>rfl
 | a::l,H=>by
  show(bd (e a) h).bind _=_;rw[H a aM];show(fL bd (l.map e) h).map _=_;rw[cF l λb d=>H b (aK _ d)]
  rfl
theorem cN{link:List (Option Nat)}{fi:Gx AM}{bd:Bd}{s s1:cL}{ps a:List PV}(b:Ev fi s (.sq ps) s1)(c:ps.length<=4000000)(d:fL (bd (bX link s1.ρ)) ps s1.h=some (a,s1.h)):Ev (dH true link fi bd) s (.ref s1.h.length) ⟨s1.ρ,s1.h++[⟨.lst,a⟩]⟩:=eB b (by
 show(if ps.length<=gu then fL _ ps s1.h else none).bind _=_
 rw[if_pos (show ps.length<=gu from c),d]
 rfl)
theorem HB{h:List aw}{n:Nat}:∀ps:List PV,ai ps=true->dj (wY h n) ps=some ps
 | [],_=>rfl
 | p::ps,hp=>by
  simp only[ai,aY]at hp;have e:wY h n p=some p:=by cases n<;>(unfold wY;rw[if_pos hp.1])
  simp only[dj,e,HB ps hp.2,dO,gT]
theorem ni{ps:List PV}{r:List aw}(hp:ai ps=true):ou (⟨.lst,ps⟩::r) (.ref 0)=some (.lst ps):=by
 unfold ou;rw[if_neg (by simp)]
 unfold wY;rw[if_neg (by simp[noRef])]
 show((dj (wY _ 3) ps).map _)=_;rw[HB ps hp];rfl
theorem HC{bd:PV->List aw->Option (Option PV×List aw)}{h:List aw}:∀(l:List Rk) (i:Nat),(∀r∈l,∀j:Nat,j<1000->bd (BO (.int (j:Int)) (.str r.1)) h=some (some (lX (X9 r.1 r.2 (sI j))),h))->i+l.length<=1000->fL bd (fM i (l.map λr=>PV.str r.1)) h=some ((lY i l).map lX,h)
 | [],_,_,_=>rfl
 | r::l,i,H,a=>by
  simp only[aN]at a;show(bd (BO (.int (i:Int)) (.str r.1)) h).bind _=_;rw[H r aM i (by lia)]
  show(fL bd (fM (i+1) (l.map λr=>PV.str r.1)) h).map _=_
  rw[HC l (i+1) (λq b=>H q (aK _ b)) (by lia)]
  rfl
theorem xy:∀(l:List PV) (i:Nat),(fM i l).length=l.length
 | [],_=>rfl
 | a::l,i=>by simp[fM,xy l]
theorem eV{a:Gx PV}{s s1:cL}{p:PV}{ps:List PV}(h:Ev a s p s1)(hp:zm p=some ps):Ev (wW a) s (fM 0 ps) s1:=eB h (by show((zm p).map _).map _=_;rw[hp];rfl)
section
variable {F:PV} {ks:List Rk} (hF:uT F ks) (k:Nat) (hk:3<=k) (hN:noRef F=true)
include hF hk hN
theorem C4(w:Str)(fn:PV){a:List Rk}(u:∀r∈a,r∈ks)(ho:Yb ks)(R:a.length<=10){tk:Option Rk}(ht:∀r,tk=some r->r∈ks/\(r.1==(Str.ofString ""))=false):Gives (run txt (k+7) "call_acts" [F,.aq [.str w,.str (FV tk),fn,.aq (a.map λr=>.str r.1)]] []) (fQ (lY 0 a++xu::v9 tk)):=by
 rw[vV];obtain⟨p,hp⟩:∃p,p=PV.aq [.str w,.str (FV tk),fn,.aq (a.map λr=>.str r.1)]:=⟨_,rfl⟩
 have E:∀h,bO h p (.int 3)=some (.aq (a.map λr=>.str r.1)):=λh=>by rw[hp];rfl
 have c:∀h,bO h p (.int 1)=some (.str (FV tk)):=λh=>by rw[hp];rfl
 rw[<-hp];have H:=uU a 0;have i:Ev (di (dH true [none,none,none,some 0] (Jq (wW (op2 bO (rd 1) (kI 3)))) (lU Qd (bnd (ay (rd 3) (ay (rd 2) (ay (gL Jc Q1) (bg [])))) (bJ 0 3 (run txt (k+6) "arg_act"))))) (aW 2)) (S0 [some F,some p,none]) .nx ⟨[some F,some p,some (.ref 0)],[⟨.lst,(lY 0 a).map lX⟩]⟩:=by
  refine aS (cN (sG (eV (b2 rfl rfl (E _)) rfl)) (by rw[xy,ao];lia) (HC a 0 (λr v j I=>?_) (by lia))) rfl
  have h:=J0 hF k hk (u r v) (ho r (u r v)) (sI j);exact e1 rfl (c7 (cA rfl (cA rfl (cA (bV (cA rfl rfl) (aca _ j I)) rfl))) rfl rfl h)
 obtain⟨L,f⟩:∃L,L=(lY 0 a++[xu]).map lX:=⟨_,rfl⟩
 have J:L.length<=100:=by rw[f];simp[H];lia
 have l:Ev (iw (E3 "list" (kr (iH zi)) (rd 2) (ay (bg (.aq [(.str "hand"),(.str ""),(.bl false),(.int 0),(.int 0),(.str "")])) (bg [])))) ⟨[some F,some p,some (.ref 0)],[⟨.lst,(lY 0 a).map lX⟩]⟩ .nx ⟨[some F,some p,some (.ref 0)],[⟨.lst,L⟩]⟩:=by
  rw[f,cf];exact dS (AO rfl rfl (cA rfl rfl) (aC rfl (by rw[ao];lia)))
 have y:Ek Qp ⟨[some F,some p,some (.ref 0)],[⟨.lst,L⟩]⟩ (FV tk==(Str.ofString "")):=bT (b2 (b2 rfl rfl (c _)) rfl (fI _ _ _));have m:ai L=true:=by rw[f];exact NI _
 have g:∀q:cP,fj [⟨.lst,L⟩] (.ref 0) (.lst [lX q])=some (fQ (lY 0 a++xu::[q])):=λq=>by
  have e:fj [⟨.lst,L⟩] (.ref 0) (.lst [lX q])=sizeOk (L.length+1) (.lst (L++[lX q])):=rfl;rw[e];refine(if_pos (show L.length+1<=gu from by have:gu=4000000:=rfl;lia)).trans ?_
  rw[f];simp[fQ]
 cases tk with
 | none =>
  rw[show(FV none==(Str.ofString ""))=true by decide +kernel]at y
  refine⟨_,_,gO (sq i (sq l (nz (iT y (rS rfl))))),?_⟩;rw[ni m,f];rfl
 | some r =>
  obtain⟨o,B⟩:=ht r rfl;obtain⟨x,d⟩:=r;have c:∀h,bO h p (.int 1)=some (.str x):=c
  simp only at B;have C:Ek Qp ⟨[some F,some p,some (.ref 0)],[⟨.lst,L⟩]⟩ false:=bT (b2 (b2 rfl rfl (c _)) rfl (by rw[fI,B]))
  have M:=hF (k+5) _ o;have N:=fO (k+5) d;have t:ai [F,PV.str x]=true:=by simp[ai,hN,noRef]
  have D:Ek (iu (bnd (ay (bnd Qz (bJ 0 2 (run txt (k+6) "kind_of"))) (bg [])) (bJ 0 1 (run txt (k+6) "is_holder")))) ⟨[some F,some p,some (.ref 0)],[⟨.lst,L⟩]⟩ (fq d):=tR (c7 (cA (c7 (cA rfl (cA (b2 rfl rfl (c _)) rfl)) rfl (by rw[t];rfl) M) rfl) rfl (by simp[ai,rY]) N) rfl
  cases d with
  | ho b s =>
   exact gV (sq i (sq l (sq (iF C rfl) (nz (iT D (rS (b2 rfl (lS (cA (tU (cA rfl (cA rfl (cA rfl (cA rfl (cA rfl (cA (b2 rfl rfl (c _)) rfl)))))) (by simp)) rfl) (by simp)) (g ⟨"take","",false,0,0,x⟩)))))))) (CP _)
  | ow s =>
   have Q:=fy hF (k+2) (by lia) "fill" "" o (ho _ o)
   exact gV (sq i (sq l (sq (iF C rfl) (sq (iF D rfl) (rS (b2 rfl (lS (cA (c7 (cA rfl (cA rfl (cA (b2 rfl rfl (c _)) (cA rfl rfl)))) rfl (by simp[ai,hN,noRef]) Q) rfl) (by simp)) (g (tA "fill" x (.ow s) (Al s) "")))))))) (CP _)
end
def jX(i:Nat)(a:cP):PV:=.aq [.int i,.str a.w,.str a.n,.bl a.t,.int a.f,.int a.m,.str a.k]
def dt:List cP->List cP
 | []=>[CN]
 | a::r=>a::r
structure NK (c:CT) (F p:PV) (as:List cP):Prop where
 ex:∃w fn rest,p=.aq (.str w::rest)/\jK.lookup w=some fn/\X4.lookup fn=some 2/\Gives (c fn [F,p] []) (fQ as)
 few:as.length<=20
 nr:noRef p=true
theorem Ut{as:List cP}(h:as.length<=20):(dt as).length<=20:=by
 cases as with
 | nil=>simp[dt]
 | cons a r=>exact h
theorem clF{b:List (Str×Nat)}{tab:List (Str×Str)}{c:CT}{fk:Gx PV}{d:Gx (List PV)}{s s1 s2:cL}{w fn:Str}{n:Nat}{as:List PV}{q:PV}(hk:Ev fk s (.str w) s1)(h1:tab.lookup w=some fn)(e:b.lookup fn=some n)(f:Ev d s1 as s2)(g:as.length=n)(i:(s2.h.isEmpty || ai as)=true)(hc:Gives (c fn as []) q):Ev (BZ b c (MJ (λk=>(List.lookup k tab).map .fn) fk) d) s q s2:=by
 obtain⟨p,j,e1,l⟩:=hc;refine eB (eB hk (show(lH ((W5 (.str w)).bind λk=>(List.lookup k tab).map PV.fn)) s1=some (.ok (.fn fn),s1)from ?_)) (eB (a:=(fn,n)) ?_ (eB f ?_))
 ·show((List.lookup w tab).map PV.fn).map _=_;rw[h1];rfl
 ·show((b.lookup fn).map _).map _=_;rw[e];rfl
 ·unfold qa;rw[if_pos ⟨g,i⟩,e1];show(ou j p).map _=_;rw[l];rfl
theorem mkN(i:Nat)(a:cP)(h:List aw):fj h (.aq [.int (i:Int)]) (lX a)=some (jX i a):=aT (by simp)
theorem J1{c:CT}{F p:PV}{as:List cP}(hN:noRef F=true)(M:NK c F p as)(i:Nat)(ah:List PV)(t:ah.length<=90000)(d e f:Option PV):Ev (uK c) ⟨[d,e,some F,some (.ref 0),some (.int (i:Int)),some p,f],[⟨.lst,ah⟩]⟩ .nx ⟨[d,e,some F,some (.ref 0),some (.int (i:Int)),some p,some (fQ as)],[⟨.lst,ah++(dt as).map (jX i)⟩]⟩:=by
 obtain⟨w,fn,b,rfl,g,j,k⟩:=M.ex;have l:=M.few;have m:=M.nr;have o:∀h,bO h (.aq (.str w::b)) (.int 0)=some (.str w):=λh=>(show bO h (.aq (.str w::b)) (.int 0)=L2.lF (PV.str w::b) ((0:Nat):Int)from rfl).trans (atI_nat rfl)
 refine sq (aS (clF (b2 rfl rfl (o _)) g j (cA rfl (cA rfl rfl)) rfl (by simp[ai,hN,m]) k) rfl) ?_
 have ho:Ek Qc ⟨[d,e,some F,some (.ref 0),some (.int (i:Int)),some (.aq (.str w::b)),some (fQ as)],[⟨.lst,ah⟩]⟩ (fQ (dt as)):=by
  cases as with
  | nil=>rfl
  | cons a r=>rfl
 have q:=Ut l;exact dS (AO rfl rfl (cA (cM (sV ho rfl) (by lia) λa _=>e1 rfl (b2 (tU (cA rfl rfl) (by simp)) rfl (mkN i a _))) rfl) (xC rfl rfl (by rw[ao];lia)))
def uV:Nat->List (List cP)->List PV
 | _,[]=>[]
 | i,as::r=>(dt as).map (jX i)++uV (i+1) r
theorem xA{c:CT}{F:PV}(hN:noRef F=true)(d f:Option PV):∀(L:List (PV×List cP)) (i:Nat) (ah:List PV) (g j b:Option PV),(∀q∈L,NK c F q.1 q.2)->ah.length+20*L.length<=90000 ->
  ∃k l a,c9 (jP 2 Q7) (uK c) (fM i (L.map (·.1))) ⟨[d,f,some F,some (.ref 0),g,j,b],[⟨.lst,ah⟩]⟩=some (.ok .nx,⟨[d,f,some F,some (.ref 0),k,l,a],[⟨.lst,ah++uV i (L.map (·.2))⟩]⟩)
 | [],i,ah,g,j,b,_,_=>⟨g,j,b,by simp[uV];rfl⟩
 | (p,as)::L,i,ah,g,j,b,h,m=>by
  have M:=h (p,as) aM;have o:=Ut (as:=as) M.few;simp only[aN]at m;obtain⟨k,l,a,e⟩:=xA hN d f L (i+1) (ah++(dt as).map (jX i)) (some (.int (i:Int))) (some p) (some (fQ as)) (λq r=>h q (aK _ r)) (by rw[aX,ao];lia)
  refine⟨k,l,a,?_⟩;rw[b7]at e;exact fC rfl (J1 hN M i ah (by lia) d f b) e
theorem C5:∀(L:List (List cP)) (i:Nat),∀p∈uV i L,∃j a,p=jX j a
 | [],i,p,h=>by simp[uV]at h
 | as::L,i,p,h=>by
  rw[uV,bI]at h;rcases h with h | h
  ·obtain⟨a,_,rfl⟩:=aE.mp h;exact⟨i,a,rfl⟩
  ·exact C5 L (i+1) p h
theorem Yc(L:List (List cP))(i:Nat):ai (uV i L)=true:=by
 have:∀l:List PV,(∀p∈l,noRef p=true)->ai l=true:=λl=>by
  induction l with
  | nil=>intro _;rfl
  | cons p l ih=>intro h;simp[ai,h p aM,ih λq b=>h q (aK _ b)]
 exact this _ λp hp=>by
  obtain⟨j,a,rfl⟩:=C5 L i p hp;rfl
theorem Yd{P F:PV}{c:Int}{a b d e:PV}{L:List (PV×List cP)}(k:Nat)(f:∀h,bO h P (.int c)=some F)(hF:F=.aq [a,b,d,e,.aq (L.map (·.1))])(hN:noRef F=true)(g:∀q∈L,NK (run txt k) F q.1 q.2)(l:L.length<=1000):Gives (run txt (k+1) "acts" [P,.int c] []) (.lst (uV 0 (L.map (·.2)))):=by
 rw[NA];obtain⟨m,o,i,q⟩:=xA hN (some P) (some (.int c)) L 0 [] none none none g (by simp;lia)
 have j:∀h,bO h F (.int 4)=some (.aq (L.map (·.1))):=λh=>by rw[hF];rfl
 refine⟨_,_,gO (sq (aS (b2 rfl rfl (f _)) rfl) (sq rfl (sq (fS (sG (eV (b2 rfl rfl (j _)) rfl)) q) (rS rfl)))),?_⟩;exact ni (Yc _ _)
theorem uW{h:List aw}{n:Nat}{ps:List PV}(hc:h[n]?=some ⟨.lst,ps⟩)(hp:ai ps=true):ou h (.ref n)=some (.lst ps):=by
 have b:h.isEmpty=false:=by
  cases h with
  | nil=>simp at hc
  | cons a r=>rfl
 unfold ou;rw[b,if_neg dv];unfold wY;rw[if_neg (by simp[noRef])]
 show((h[n]?).bind _)=_;rw[hc,dO];show(if live ⟨.lst,ps⟩=true then(dj (wY h 3) ps).map (PV.nd .lst)else none)=_
 rw[if_pos (show live ⟨.lst,ps⟩=true from rfl),HB ps hp]
 rfl
theorem Am:∀t:eW,ai (t.map toldP)=true
 | []=>rfl
 | q::t=>by
  have:noRef (toldP q)=true:=by
   have h:∀l:List bE,ai (l.map qd++[.int q.2])=true:=λl=>by
    induction l with
    | nil=>rfl
    | cons k l ih=>simp only[aO,sL,ai,Nw,ih,Bool.and_self]
   simpa[toldP,noRef]using h q.1
  simp[ai,this,Am t]
theorem NL{c:CT}{a:(PV->Gx PV)->Nat->p8}{fe fb:Gx PV}{link:List (Option Nat)}{s s1:cL}{p:PV}{fk:List (List bE)}{res:eW}{out:List bE->Option (List (List bE))}(h:Ev fe s p s1)(hp:p=.lst (fk.map dk)\/∃j,p=.ref j/\s1.h[j]?=some ⟨.lst,fk.map dk⟩)
  (hc:c "tell_new"=er Cr 5) (b:∀ω n,a ω n=er (X2 c ω n) 5) (hk:∀f∈fk,f.length<1000) (k:fk.length<4000000) (l:hV out xl 0 (dy [] (-1) fk)=some res)
  (d:∀g fs,out g=some fs->(∀f∈fs,f.length<1000)/\∀ah,∃vL,fb ⟨some (dk g)::bX link s1.ρ,hS (s1.h++[ox]) ah⟩=some (.ok (.lst (fs.map dk)),⟨vL,hS (s1.h++[ox]) ah⟩)) :
  Ev (Jy a fe fb link) s (.ref (s1.h.length+1)) ⟨s1.ρ,hS (s1.h++[ox]) res⟩:=by
 refine eB h ?_;have hd:(s1.h++[ox]).length=s1.h.length+1:=by simp
 have r:=Sg (ω:=RM fb (bX link s1.ρ)) (n:=s1.h.length) hc (λg fs e=>⟨(d g fs e).1,λah q=>by
  obtain⟨vL,m⟩:=(d g fs e).2 ah;show(fb ⟨some (dk g)::bX link s1.ρ,hS (s1.h++[ox]) ah⟩).bind _=_;rw[m];rfl⟩) (hp.imp id λ⟨j,o,i⟩=>⟨j,o,by rw[ij (bW.mp i).1];exact i⟩) hk k l
 show(a (RM fb (bX link s1.ρ)) s1.h.length [p,.ref s1.h.length] (s1.h++[ox])).map _=_;rw[b,r,hd];rfl
noncomputable def kN(n:Nat):List bE:=[.inl (n:Int)]
def iN(n:Nat):PV:=.int (n:Int)
def nT(l:List Nat):PV:=.aq (l.map iN)
structure Ye (ls:List (List Nat)) (N:Nat):Prop where
 len:ls.length=N
 ok:∀l∈ls,l.length<=2/\∀m∈l,m<N
 pos:0<N
 few:N<128
def FW(a:List (List Nat)):List bE->Option (List (List bE))
 | [.inl i]=>if 0<=i then(a[i.toNat]?).map λl=>l.map kN else none
 | _=>none
theorem HE{a:List (List Nat)}{n:Nat}{l:List Nat}(b:a[n]?=some l):FW a (kN n)=some (l.map kN):=by
 show(if(0:Int)<=(n:Int)then(a[(n:Int).toNat]?).map _ else none)=_
 rw[if_pos (by lia),eZ,b]
 rfl
theorem NO{a b:Nat}(h:kN a=kN b):a=b:=by
 unfold kN at h;injection h with h _
 injection h with h
 exact Int.ofNat.inj h
theorem HF(k:Nat):run txt (k+1) "tell_new"=er Cr 5:=zS k
theorem NP(k:Nat)(ω:PV->Gx PV)(n:Nat):er (XM txt oG (run txt k) ω n) 5=er (X2 (run txt k) ω n) 5:=by
 rw[FN];rfl
theorem NQ{a:List (List Nat)}{N:Nat}(H:Ye a N)(hd:List aw)(g:List bE)(fs:List (List bE))(e:FW a g=some fs):(∀f∈fs,f.length<1000)/\∀ah,∃vL,Qj ⟨some (dk g)::[some (.lst (a.map nT))],hS hd ah⟩=some (.ok (.lst (fs.map dk)),⟨vL,hS hd ah⟩):=by
 unfold FW at e;split at e
 ·rename_i i;obtain⟨b,e⟩:=b9 e;obtain⟨l,h1,rfl⟩:=bt e;refine⟨λf c=>?_,λah=>⟨some (dk [.inl i])::[some (.lst (a.map nT))],?_⟩⟩
  ·obtain⟨m,_,rfl⟩:=aE.mp c;show 1<1000
   lia
  ·have j:=(H.ok l (dc h1)).1;have d:∀h,bO h (.lst (a.map nT)) (.int i)=some (nT l):=λh=>by
    have:=atI_nat (v:=nT l) (by rw[bP,h1];rfl)
    rw[kG b]at this;exact this
   have r:=cM (link:=[none,none]) (bd:=lU (aW 1) (mX .aq Q1)) (s:=⟨some (dk [.inl i])::[some (.lst (a.map nT))],hS hd ah⟩) (e:=iN) (G:=λm=>dk (kN m)) (fi:=jr Q5) (sV (p:=nT l) (b2 (x:=.lst (a.map nT)) (y:=.int i) rfl (b2 rfl rfl rfl) (d _)) rfl) (by lia) (λm _=>e1 (EW:=[none,some (iN m)]) (h1:=hS hd ah) rfl (tU (cA rfl rfl) (show 1<=4000000 by decide)))
   rw[cy];exact r
 ·cases e
theorem FX{j:List (List Nat)}{N:Nat}(H:Ye j N):∃(ah:eW) (c:List Nat),(∀k,Gives (run txt (k+2) "arrivals" [.lst (j.map nT)] []) (.lst (ah.map toldP)))/\ah.map (·.1)=c.map kN/\c.Nodup/\(∀n∈c,n<N)/\XZ (FW j) [kN 0] ah/\Fy (FW j) ah ah.length/\0∈c:=by
 have x:∀g∈(List.range N).map kN,∃fs,FW j g=some fs/\(∀f∈fs,f∈(List.range N).map kN)/\fs.length<=2:=λg p=>by
  obtain⟨n,o,rfl⟩:=aE.mp p;rw[dD]at o;obtain⟨l,u⟩:∃l,j[n]?=some l:=⟨_,b6 (by rw[H.len];exact o)⟩
  obtain⟨y,B⟩:=H.ok l (dc u);refine⟨_,HE u,λf d=>?_,by rw[ao];exact y⟩
  obtain⟨m,q,rfl⟩:=aE.mp d;exact aE.mpr ⟨m,dD.mpr (B m q),rfl⟩
 have v:((List.range N).map kN).length=N:=by simp
 have d:=H.few;obtain⟨ah,C,w,D,E,I,J⟩:=uH (FW j) [kN 0] ((List.range N).map kN) 2 (by rw[v];show N+2<4000000;lia) (by rw[v];show N<3000000;lia) x (λf d=>by
  rw[aV]at d;subst d;exact aE.mpr ⟨0,dD.mpr H.pos,rfl⟩)
 have i:∀f∈ah.map (·.1),∃n,n<N/\f=kN n:=λf d=>by
  obtain⟨t,ht,rfl⟩:=aE.mp d;obtain⟨n,o,e⟩:=aE.mp (D t ht);exact⟨n,dD.mp o,e.symm⟩
 obtain⟨c,e1,L⟩:∃c:List Nat,ah.map (·.1)=c.map kN/\∀n∈c,n<N:=by
  revert i
  generalize ah.map (·.1)=fs
  intro i;induction fs with
  | nil=>exact⟨[],rfl,λ_ z=>nomatch z⟩
  | cons f fs ih =>
   obtain⟨n,o,rfl⟩:=i f aM;obtain⟨c,M,Q⟩:=ih λg p=>i g (aK _ p)
   exact⟨n::c,by rw[aO,M],λm q=>(aU.mp q).elim (λz=>by rw[z];exact o) (Q m)⟩
 refine⟨ah,c,?_,e1,?_,L,E,I,?_⟩
 ·intro k;rw[zT];have r:=NL (fe:=mX .lst Qo) (link:=[some 0]) (s1:=S0 [some (.lst (j.map nT))]) rfl (.inl rfl) (HF k) (NP (k+1)) (λf d=>by rw[aV]at d;subst d;decide) (by decide) C (NQ H _)
  exact⟨_,_,gO (rS r),uW (X1) (Am ah)⟩
 ·rw[e1]at w;exact List.Pairwise.imp (λ{a b} h z=>h (by rw[z])) (List.pairwise_map.mp w)
 ·have:=J (kN 0) (aV.mpr rfl);rw[e1]at this;obtain⟨n,o,e⟩:=aE.mp this;rw[<-NO e];exact o
def eN(q:Nat×cP):PV:=jX q.1 q.2
def eA:Nat->List (List cP)->List (Nat×cP)
 | _,[]=>[]
 | i,as::r=>(dt as).map (λa=>(i,a))++eA (i+1) r
theorem oO:∀(L:List (List cP)) (i:Nat),uV i L=(eA i L).map eN
 | [],_=>rfl
 | as::L,i=>by
  rw[uV,eA,cf,cy,oO L (i+1)];rfl
theorem oQ:∀(L:List (List cP)) (i:Nat),∀q∈eA i L,i<=q.1/\q.1<i+L.length
 | [],_,_,h=>nomatch h
 | as::L,i,q,h=>by
  rw[eA,bI]at h;rw[aN];rcases h with h | h
  ·obtain⟨a,_,rfl⟩:=aE.mp h;show i<=i/\i<i+(L.length+1)
   lia
  ·have:=oQ L (i+1) q h
   lia
theorem uX:∀(L:List (List cP)) (i j:Nat),i<=j->j<i+L.length->∃a,(j,a)∈eA i L
 | [],_,_,d,b=>by simp at b;lia
 | as::L,i,j,d,b=>by
  rw[aN]at b;by_cases e:j=i
  ·subst e;obtain⟨a,c⟩:∃a,a∈dt as:=by
    cases as with
    | nil=>exact⟨CN,aM⟩
    | cons a r=>exact⟨a,aM⟩
   exact⟨a,by rw[eA];exact ik _ (aE.mpr ⟨a,c,rfl⟩)⟩
  ·obtain⟨a,c⟩:=uX L (i+1) j (by lia) (by lia)
   exact⟨a,by rw[eA];exact dN _ c⟩
noncomputable def cJ(kvs:List (bE×PV))(k:bE):Option PV:=(kvs.find? λa=>decide (a.1=k)).map (·.2)
def Yg(N:Nat)(kvs:List (bE×PV)):Prop:=∀q∈kvs,∃m:Nat,q.2=.int (m:Int)/\m<N
theorem FY(kvs:List (bE×PV))(k:bE)(p:PV):(cJ (kvs++[(k,p)]) k).isSome=true:=by
 unfold cJ;rw[D0,List.find?_isSome];exact⟨(k,p),by simp,by simp⟩
theorem uY(kvs a:List (bE×PV))(k:bE)(h:(cJ kvs k).isSome=true):(cJ (kvs++a) k).isSome=true:=by
 unfold cJ at h ⊢;rw[D0,List.find?_isSome]at h ⊢;obtain⟨x,b,c⟩:=h;exact⟨x,ik _ b,c⟩
theorem NR{N:Nat}{kvs:List (bE×PV)}(h:Yg N kvs){k:bE}(hk:(cJ kvs k).isSome=true):∃m:Nat,cJ kvs k=some (.int (m:Int))/\m<N:=by
 unfold cJ at hk ⊢;cases e:kvs.find? λa=>decide (a.1=k)with
 | none=>rw[e]at hk;cases hk
 | some q =>
  obtain⟨m,b,c⟩:=h q (List.mem_of_find?_eq_some e);exact⟨m,by rw[gT,b],c⟩
def iS:List (Nat×cP)->Nat->List (bE×PV)->List (bE×PV)
 | [],_,a=>a
 | (j,_)::as,i,a=>match cJ a (.inl (j:Int))with
  | some _=>iS as (i+1) a
  | none=>iS as (i+1) (a++[(.inl (j:Int),.int (i:Int))])
noncomputable def dC(kvs:List (bE×PV)):aw:=⟨.fJ false (kvs.map λq=>[q.1]),kvs.map (·.2)⟩
theorem oR(k:bE):∀kvs:List (bE×PV),gM [k] (kvs.map λq=>[q.1]) (kvs.map (·.2))=cJ kvs k
 | []=>rfl
 | q::kvs=>by
  have ih:=oR k kvs;unfold cJ at ih ⊢;rw[aO,aO,gM];by_cases h:q.1=k
  ·rw[if_pos (by rw[h]),List.find?_cons_of_pos (by simpa using h)]
   rfl
  ·rw[if_neg (by simpa using h),List.find?_cons_of_neg (by simpa using h),ih]
theorem HG(k:bE):∀kvs:List (bE×PV),kn [k] (kvs.map λq=>[q.1])=(cJ kvs k).isSome
 | []=>rfl
 | q::kvs=>by
  have ih:=HG k kvs;unfold cJ kn at ih ⊢;rw[aO,jG];by_cases h:q.1=k
  ·rw[List.find?_cons_of_pos (by simpa using h),dE (by rw[h])]
   rfl
  ·rw[List.find?_cons_of_neg (by simpa using h),mK (by simpa using h),yu,ih]
theorem NS{a:List (Option PV)}{r:List aw}{kvs:List (bE×PV)}{j:Int}{y:PV}(c:kvs.length<4000000):∃p,kr Jm (.ref 0) [.int j,y] ⟨a,dC kvs::r⟩=some (.ok p,⟨a,(match cJ kvs (.inl j)with | some _=>dC kvs | none=>dC (kvs++[(.inl j,y)]))::r⟩):=by
 have e:kr Jm (.ref 0) [.int j,y] ⟨a,dC kvs::r⟩=(if(kvs.map λq=>[q.1]).length<gu then(if kn [.inl j] (kvs.map λq=>[q.1])=true then(gM [.inl j] (kvs.map λq=>[q.1]) (kvs.map (·.2))).map λp=>(dC kvs,p)else some (⟨.fJ false ((kvs.map λq=>[q.1])++[[.inl j]]),kvs.map (·.2)++[y]⟩,y))else none).map λb=>(.ok b.2,⟨a,(dC kvs::r).set 0 b.1⟩):=rfl
 rw[e,if_pos (show(kvs.map λq=>[q.1]).length<gu by rw[ao];exact c),HG,oR]
 cases cJ kvs (.inl j)with
 | some v=>exact⟨v,rfl⟩
 | none=>exact⟨y,by simp[dC]⟩
theorem mtD{w:PV->List PV->Gx PV}{b:Gx PV}{c:Gx (List PV)}{s s1 s2:cL}{n:Nat}{ks:List (List bE)}{t:Bool}{ps as:List PV}{r:Option (Rs PV×cL)}(h1:Ev b s (.ref n) s1)(hc:s1.h[n]?=some ⟨.fJ t ks,ps⟩)(d:Ev c s1 as s2)(f:w (.ref n) as s2=r):E3 "dict" w b c s=r:=by
 refine eB h1 (eB (a:=()) ?_ (eB d f));show((cS s1.h (.ref n)).bind _).map _=_;have e:cS s1.h (.ref n)=some (.fJ t ks,ps):=by
  show(s1.h[n]?).bind _=_;rw[hc];rfl
 rw[e];rfl
theorem iU(c:CT)(P I A:PV):∀(as:List (Nat×cP)) (i:Nat) (kvs:List (bE×PV)) (d f:Option PV),Yg i kvs->kvs.length<=i->i+as.length<=90000 ->
  (∃C D,c9 (jP 2 Q7) (xp c) (fM i (as.map eN)) ⟨[some P,some I,some A,some (.ref 0),d,f,none],[dC kvs]⟩=some (.ok .nx,⟨[some P,some I,some A,some (.ref 0),C,D,none],[dC (iS as i kvs)]⟩))/\Yg (i+as.length) (iS as i kvs)/\(∃g,iS as i kvs=kvs++g)/\∀q∈as,(cJ (iS as i kvs) (.inl (q.1:Int))).isSome=true
 | [],i,kvs,d,f,h,_,_=>⟨⟨d,f,rfl⟩,h,⟨[],by simp[iS]⟩,λ_ z=>nomatch z⟩
 | (j,a)::as,i,kvs,d,f,h,J,E=>by
  rw[aN]at E;have B:jP 2 Q7 (BO (.int (i:Int)) (jX j a)) ⟨[some P,some I,some A,some (.ref 0),d,f,none],[dC kvs]⟩=some ⟨[some P,some I,some A,some (.ref 0),some (.int (i:Int)),some (jX j a),none],[dC kvs]⟩:=rfl;obtain⟨p,hp⟩:=NS (kvs:=kvs) (by lia)
  have l:Ev (xp c) ⟨[some P,some I,some A,some (.ref 0),some (.int (i:Int)),some (jX j a),none],[dC kvs]⟩ .nx ⟨[some P,some I,some A,some (.ref 0),some (.int (i:Int)),some (jX j a),none],[match cJ kvs (.inl (j:Int))with | some _=>dC kvs | none=>dC (kvs++[(.inl (j:Int),.int (i:Int))])]⟩:=dS (mtD rfl rfl (cA (b2 rfl rfl rfl) (cA rfl rfl)) hp)
  cases e:cJ kvs (.inl (j:Int))with
  | some v =>
   have o:iS ((j,a)::as) i kvs=iS as (i+1) kvs:=by rw[iS,e]
   rw[e]at l;obtain⟨⟨r,t,u⟩,w,⟨g,k⟩,x⟩:=iU c P I A as (i+1) kvs (some (.int (i:Int))) (some (jX j a)) (λq b=>by obtain⟨m,y,H⟩:=h q b;exact⟨m,y,by lia⟩) (by lia) (by lia)
   rw[o];refine⟨⟨r,t,fC B l u⟩,?_,⟨g,k⟩,λq b=>?_⟩
   ·rw[aN,show i+(as.length+1)=i+1+as.length by lia];exact w
   ·rcases aU.mp b with rfl | b
    ·rw[k];exact uY _ _ _ (by rw[e];rfl)
    ·exact x q b
  | none =>
   have o:iS ((j,a)::as) i kvs=iS as (i+1) (kvs++[(.inl (j:Int),.int (i:Int))]):=by rw[iS,e]
   rw[e]at l;obtain⟨⟨r,t,u⟩,w,⟨g,k⟩,x⟩:=iU c P I A as (i+1) (kvs++[(.inl (j:Int),.int (i:Int))]) (some (.int (i:Int))) (some (jX j a)) (λq b=>by
    rcases bI.mp b with b | b
    ·obtain⟨m,y,H⟩:=h q b;exact⟨m,y,by lia⟩
    ·rw[aV]at b;subst b;exact⟨i,rfl,by lia⟩) (by rw[aX];simp;lia) (by lia)
   rw[o];refine⟨⟨r,t,fC B l u⟩,?_,⟨(.inl (j:Int),.int (i:Int))::g,by rw[k];simp⟩,λq b=>?_⟩
   ·rw[aN,show i+(as.length+1)=i+1+as.length by lia];exact w
   ·rcases aU.mp b with rfl | b
    ·rw[k];exact uY _ _ _ (FY _ _ _)
    ·exact x q b
def An(c:CT)(rows:PV)(n:Nat)(nx:Nat->List Nat):Prop:=∀j:Nat,j<n->Gives (c "row_nexts" [rows,.int (j:Int)] []) (nT (nx j))/\(nx j).length<=2/\∀m∈nx j,m<n
def mv(kvs:List (bE×PV))(m:Nat):Nat:=match cJ kvs (.inl (m:Int))with
 | some (.int v)=>v.toNat
 | _=>0
theorem C6{N:Nat}{kvs:List (bE×PV)}(h:Yg N kvs){m:Nat} (hk:(cJ kvs (.inl (m:Int))).isSome=true):cJ kvs (.inl (m:Int))=some (.int (mv kvs m:Int))/\mv kvs m<N:=by
 obtain⟨v,a,b⟩:=NR h hk;have e:mv kvs m=v:=by unfold mv;rw[a];rfl
 rw[e];exact⟨a,b⟩
def jY(as:List (Nat×cP))(kvs:List (bE×PV))(nx:Nat->List Nat)(i:Nat)(q:Nat×cP):List Nat:=if as[i+1]?.map (·.1)=some q.1 then [i+1]else(nx q.1).map (mv kvs)
def Ky(as:List (Nat×cP))(kvs:List (bE×PV))(nx:Nat->List Nat):Nat->List (Nat×cP)->List (List Nat)
 | _,[]=>[]
 | i,q::bs=>jY as kvs nx i q::Ky as kvs nx (i+1) bs
theorem qo(h:List aw)(i j:Int):jB h (.int i) (.int j)=some (.bl (i==j)):=rfl
theorem jZ:∀l:List Nat,ai (l.map iN)=true
 | []=>rfl
 | n::l=>by simp[ai,iN,noRef,jZ l]
section
variable {c:CT} {fs:List PV} {I:Int} {nm res rows:PV} {R1 R2:List Rk} {n:Nat} {as:List (Nat×cP)} {kvs:List (bE×PV)} {nx:Nat->List Nat}
theorem FZ(u:L2.lF fs I=some (DC nm res rows R1 R2))(hN:noRef rows=true)(hR:An c rows n nx)(hk:Yg as.length kvs) (l:∀j:Nat,j<n->(cJ kvs (.inl (j:Int))).isSome=true) (H:as.length<=90000)
  (i:Nat) (q:Nat×cP) (o:as[i]?=some q) (v:∀q∈as,q.1<n) (ah:List PV) (ht:ah.length<=90000) :
  Ev (qh c) ⟨[some (.aq fs),some (.int I),some (.lst (as.map eN)),some (.ref 0),some (.int (i:Int)),some (eN q),some (.ref 1)],[dC kvs,⟨.lst,ah⟩]⟩ .nx ⟨[some (.aq fs),some (.int I),some (.lst (as.map eN)),some (.ref 0),some (.int (i:Int)),some (eN q),some (.ref 1)],[dC kvs,⟨.lst,ah++[nT (jY as kvs nx i q)]⟩]⟩/\(jY as kvs nx i q).length<=2/\∀m∈jY as kvs nx i q,m<as.length:=by
 have J:i<as.length:=(bW.mp o).1;obtain⟨s,a⟩:∃s:cL,s=⟨[some (.aq fs),some (.int I),some (.lst (as.map eN)),some (.ref 0),some (.int (i:Int)),some (eN q),some (.ref 1)],[dC kvs,⟨.lst,ah⟩]⟩:=⟨_,rfl⟩
 rw[<-a];have f:Ev (toB (op2 L5 Qt Q8)) s (decide (((i:Int)+1)<(as.length:Int))) s:=by
  rw[a];refine bT (b2 (y:=.int (as.length:Int)) rfl (bV (cA rfl rfl) ?_) rfl);show some (PV.int (((as.map eN).length:Nat):Int))=_;rw[ao]
 have go:∀b:Bool,Ev (eH (toB (op2 L5 Qt Q8)) (toB (op2 jB (op2 bO (op2 bO (rd 2) Qt) (kI 0)) Qi)) (bg false)) s b s->(b=true↔as[i+1]?.map (·.1)=some q.1) ->
   Ev (qh c) s .nx ⟨[some (.aq fs),some (.int I),some (.lst (as.map eN)),some (.ref 0),some (.int (i:Int)),some (eN q),some (.ref 1)],[dC kvs,⟨.lst,ah++[nT (jY as kvs nx i q)]⟩]⟩/\(jY as kvs nx i q).length<=2/\∀m∈jY as kvs nx i q,m<as.length:=λb p h1=>by
  cases b with
  | true =>
   have g:=h1.mp rfl;have L:i+1<as.length:=by
    cases z:as[i+1]? with
    | none=>rw[z]at g;cases g
    | some _=>exact(bW.mp z).1
   have k:jY as kvs nx i q=[i+1]:=if_pos g;rw[k];refine⟨iT p ?_,by simp,λm d=>by simp at d;lia⟩
   rw[a];exact dS (AO rfl rfl (cA (tU (cA (b2 rfl rfl rfl) rfl) (by simp)) rfl) (aC rfl (by lia)))
  | false =>
   obtain⟨w,B,r⟩:=hR q.1 (v q (dc o));have k:jY as kvs nx i q=(nx q.1).map (mv kvs):=if_neg λz=>nomatch h1.mpr z
   rw[k];refine⟨iF p ?_,by rw[ao];exact B,λm d=>?_⟩
   ·rw[a];have C:∀h,bO h (.aq fs) (.int I)=some (DC nm res rows R1 R2):=λh=>u
    refine dS (AO rfl rfl (cA (bV (cA (cM (G:=λm=>iN (mv kvs m)) (sV (c7 (as:=[rows,.int (q.1:Int)]) (cA (b2 (b2 rfl rfl (C _)) rfl rfl) (cA (b2 rfl rfl rfl) rfl)) rfl (by simp[ai,hN,noRef]) w) rfl) (by lia) λm d=>?_) rfl) ?_) rfl) (aC (n:=1) rfl (by lia)))
    ·refine e1 (EW:=[none,some (iN m),some (.ref 0)]) (h1:=[dC kvs,⟨.lst,ah⟩]) rfl (b2 (x:=.ref 0) (y:=.int (m:Int)) rfl rfl ?_);show gM [.inl (m:Int)] (kvs.map λq=>[q.1]) (kvs.map (·.2))=_
     rw[oR];exact(C6 hk (l m (r m d))).1
    ·unfold nT;rw[cy];rfl
   ·obtain⟨x,D,rfl⟩:=aE.mp d;exact(C6 hk (l x (r x D))).2
 by_cases h:i+1<as.length
 ·obtain⟨e,t⟩:∃e,as[i+1]?=some e:=⟨_,b6 h⟩
  refine go ((e.1:Int)==(q.1:Int)) ?_ (by rw[t];simp only[bu,gT,Option.some.injEq];lia)
  rw[dE (by lia)]at f
  refine iT f ?_;rw[a];have E:∀h,bO h (.lst (as.map eN)) (.int ((i:Int)+1))=some (eN e):=λh=>atI_nat (xs:=as.map eN) (j:=i+1) (by rw[bP,t];rfl)
  exact bT (b2 (x:=.int (e.1:Int)) (y:=.int (q.1:Int)) (b2 (b2 rfl (b2 rfl rfl rfl) (E _)) rfl rfl) (b2 rfl rfl rfl) (qo _ _ _))
 ·refine go false ?_ ⟨(λz=>nomatch z),λz=>by rw[kD (by lia)]at z;cases z⟩
  rw[mK (by lia)]at f
  exact iF f rfl
theorem uZ(g:L2.lF fs I=some (DC nm res rows R1 R2))(hN:noRef rows=true)(hR:An c rows n nx)(hk:Yg as.length kvs) (h:∀j:Nat,j<n->(cJ kvs (.inl (j:Int))).isSome=true) (r:as.length<=40000) (i:∀q∈as,q.1<n):∀(bs a:List (Nat×cP)) (ah:List PV) (b d:Option PV),as=a++bs->ah.length=a.length ->
  ∃(t u:Option PV),c9 (jP 2 Q7) (qh c) (fM a.length (bs.map eN)) ⟨[some (.aq fs),some (.int I),some (.lst (as.map eN)),some (.ref 0),b,d,some (.ref 1)],[dC kvs,⟨.lst,ah⟩]⟩=some (.ok .nx,⟨[some (.aq fs),some (.int I),some (.lst (as.map eN)),some (.ref 0),t,u,some (.ref 1)],[dC kvs,⟨.lst,ah++(Ky as kvs nx a.length bs).map nT⟩]⟩)/\(Ky as kvs nx a.length bs).length=bs.length/\∀l∈Ky as kvs nx a.length bs,l.length<=2/\∀m∈l,m<as.length
 | [],a,ah,b,d,_,_=>⟨b,d,by simp[Ky];rfl,rfl,λ_ z=>nomatch z⟩
 | q::bs,a,ah,b,d,e,ht=>by
  have E:a.length<=as.length:=by rw[e,aX];lia
  have v:as[a.length]?=some q:=by rw[e];simp
  obtain⟨w,y,B⟩:=FZ g hN hR hk h (by lia) a.length q v i ah (by lia)
  obtain⟨C,D,k,o,p⟩:=uZ g hN hR hk h r i bs (a++[q]) (ah++[nT (jY as kvs nx a.length q)]) (some (.int (a.length:Int))) (some (eN q)) (by rw[e];simp) (by simp[ht])
  rw[show(a++[q]).length=a.length+1 by simp]at k o p
  refine⟨C,D,?_,by simp[Ky,o],λx f=>?_⟩
  ·rw[aO,fM,Ky,aO,show ah++nT (jY as kvs nx a.length q)::(Ky as kvs nx (a.length+1) bs).map nT=ah++[nT (jY as kvs nx a.length q)]++(Ky as kvs nx (a.length+1) bs).map nT by simp]
   exact fC rfl w k
  ·rcases aU.mp f with rfl | f
   ·exact⟨y,B⟩
   ·exact p x f
end
def r9(L:List (List cP))(nx:Nat->List Nat):List (List Nat):=Ky (eA 0 L) (iS (eA 0 L) 0 []) nx 0 (eA 0 L)
theorem NT:∀l:List (List Nat),ai (l.map nT)=true
 | []=>rfl
 | a::l=>by simp[ai,nT,noRef,jZ,NT l]
theorem Sq(k:Nat){fs:List PV}{I:Int}{nm res rows:PV}{e R2:List Rk}{L:List (List cP)}{nx:Nat->List Nat}(f:L2.lF fs I=some (DC nm res rows e R2))(hN:noRef rows=true)(b:Gives (run txt k "acts" [.aq fs,.int I] []) (.lst (uV 0 L)))(hR:An (run txt k) rows L.length nx)(hz:(eA 0 L).length<=40000) :
  Gives (run txt (k+1) "nexts" [.aq fs,.int I] []) (.lst ((r9 L nx).map nT))/\(r9 L nx).length=(eA 0 L).length/\∀l∈r9 L nx,l.length<=2/\∀m∈l,m<(eA 0 L).length:=by
 rw[oO]at b;obtain⟨⟨g,h,i⟩,c,-,o⟩:=iU (run txt k) (.aq fs) (.int I) (.lst ((eA 0 L).map eN)) (eA 0 L) 0 [] none none (λ_ z=>nomatch z) (by simp) (by lia)
 rw[d8]at c;obtain⟨v,w,d,p,r⟩:=uZ f hN hR c (λj x=>by
  obtain⟨a,t⟩:=uX L 0 j (dn _) (by lia)
  exact o _ t) hz (λq u=>by have:=oQ L 0 q u;lia) (eA 0 L) [] [] g h rfl rfl
 refine⟨?_,p,r⟩;rw[JO];rw[fE]at d;refine⟨_,_,gO (sq (aS (c7 (cA rfl (cA rfl rfl)) rfl rfl b) rfl) (sq rfl (sq (fS (sG (eV rfl rfl)) i) (sq rfl (sq (fS (sG (eV rfl rfl)) d) (rS rfl)))))),?_⟩;exact uW rfl (NT _)
structure Uu (n j:Nat) (p:PV):Prop where
 ok:∃s,(∀h,bO h p (.int 0)=some (.str s))/\((s==(Str.ofString "go"))=true->∃m:Nat,(∀h,bO h p (.int 1)=some (iN m))/\m<n)/\((s==(Str.ofString "if"))=true->∃m:Nat,(∀h,bO h p (.int 3)=some (iN m))/\m<n)/\((s==(Str.ofString "give"))=false->(s==(Str.ofString "go"))=false->j+1<n)
def two(a b:Int):List Int:=if b<a then [b,a]else if a<b then [a,b]else [a]
theorem NU(a b:Int):iM (qb (λi=>[a,b].getD i 0) 2)=two a b:=by
 have e:qb (λi=>[a,b].getD i 0) 2=if b=a then [a]else [a,b]:=by
  show mf (mf [] a) b=_;unfold mf;by_cases h:b=a
  ·simp[h]
  ·simp[h]
 rw[e];unfold two;by_cases c:b<a
 ·rw[if_pos c,if_neg (by lia)]
  show(if a<=b then [a,b]else [b,a])=_
  rw[if_neg (by lia)]
 ·rw[if_neg c];by_cases d:a<b
  ·rw[if_pos d,if_neg (by lia)]
   show(if a<=b then [a,b]else [b,a])=_
   rw[if_pos (by lia)]
  ·rw[if_neg d,if_pos (by lia)]
   rfl
noncomputable def wa(a b:Nat):List Nat:=if b<a then [b,a]else if a<b then [a,b]else [a]
theorem acb(a b:Nat):two (a:Int) (b:Int)=(wa a b).map λn:Nat=>(n:Int):=by
 unfold two wa;by_cases c:b<a
 ·rw[if_pos (by lia),if_pos c];rfl
 ·rw[if_neg (by lia),if_neg c]
  by_cases d:a<b
  ·rw[if_pos (by lia),if_pos d];rfl
  ·rw[if_neg (by lia),if_neg d];rfl
def cell(a:List Int)(i:Nat):Int:=a.getD i 0
theorem NV(k:Nat)(a:List Int)(i:Nat):Gives (run txt (k+1) "_law_cell_at" [vK a,.int (i:Int)] []) (.int (cell a i)):=by
 rw[zX];have b:gX [] [vK a]=some (.int (a.length:Int)):=by
  show some (PV.int (((a.map PV.int).length:Nat):Int))=_;rw[ao]
 have t:Ek (toB (op2 L5 (rd 1) (gL gX (ay (rd 0) (bg []))))) (S0 [some (vK a),some (.int (i:Int))]) (decide ((i:Int)<(a.length:Int))):=bT (b2 rfl (bV (cA rfl rfl) b) rfl);by_cases h:i<a.length
 ·rw[dE (by lia)]at t
  have c:∀h,bO h (vK a) (.int (i:Int))=some (.int (cell a i)):=λ_=>atI_nat (by rw[bP,b6 h];simp[cell,h])
  exact gV (nz (iT t (rS (b2 rfl rfl (c _))))) rfl
 ·rw[mK (by lia)]at t
  have:cell a i=0:=by simp[cell,List.getD,kD (pF h)]
  rw[this];exact gV (sq (iF t rfl) (rS rfl)) rfl
theorem da{h:List aw}{i j:Int}(a:0<j):gB h (.int i) (.int j)=some (.int (i%j)):=if_pos (dE a)
theorem xB{h:List aw}{i j:Int}(a:0<j/\j<1073741824):iL h (.int i) (.int j)=some (.int (i/j)):=if_pos (dE a)
theorem C7{h:List aw}{i j:Int}(a:(-GS<i/\i<GS)\/(-GS<j/\j<GS)):vx h (.int i) (.int j)=some (.int (i*j)):=if_pos (dE a)
noncomputable def mxA:Nat->Int×Int
 | 0=>(48271,2147483647)
 | 1=>(69621,998244353)
 | 2=>(40692,1000000007)
 | _=>(16807,2147483629)
def F6(c:Int)(i:Nat):Int:=(c%1000000000039+(i:Int))*(mxA i).1%(mxA i).2
theorem lM(k:Nat)(c:Int){i:Nat}(b:i<4):Gives (run txt (k+1) "_law_mixed" [.int c,.int (i:Int)] []) (.int (F6 c i)):=by
 rw[FD];have a:∀h,gB h (.int c) (.int 1000000000039)=some (.int (c%1000000000039)):=λ_=>da (by decide)
 match i,b with
 | 0,_=>exact gV (sq (aS rfl rfl) (rS (b2 (b2 (b2 (b2 rfl rfl (a _)) rfl rfl) rfl (C7 (.inr (by decide)))) rfl (da (by decide))))) rfl
 | 1,_=>exact gV (sq (aS rfl rfl) (rS (b2 (b2 (b2 (b2 rfl rfl (a _)) rfl rfl) rfl (C7 (.inr (by decide)))) rfl (da (by decide))))) rfl
 | 2,_=>exact gV (sq (aS rfl rfl) (rS (b2 (b2 (b2 (b2 rfl rfl (a _)) rfl rfl) rfl (C7 (.inr (by decide)))) rfl (da (by decide))))) rfl
 | 3,_=>exact gV (sq (aS rfl rfl) (rS (b2 (b2 (b2 (b2 rfl rfl (a _)) rfl rfl) rfl (C7 (.inr (by decide)))) rfl (da (by decide))))) rfl
 | n+4,h=>lia
noncomputable def cp(n:Int):Nat:=97+(n%26).toNat
def lt(n:Int):Str:=⟨#[cp n]⟩
def fz(l:List Nat):Str:=⟨l.toArray⟩
theorem xD{a b:List Nat}(h:fz a=fz b):a=b:=by
 have:a.toArray=b.toArray:=dq Str.cps h;simpa using this
theorem F7(a b:List Nat):fz a++fz b=fz (a++b):=by
 show Str.append _ _=_;unfold Str.append fz;simp
theorem acd(n:Int):lt n=fz [cp n]:=rfl
theorem HH:(Str.ofString "")=fz []:=by decide +kernel
theorem HI(l:List Nat):(fz l).length=l.length:=by
 unfold fz Str.length;simp
theorem F8:∀m:Fin 26,L2.lF (Str.ofString "abcdefghijklmnopqrstuvwxyz").cps.toList ((m:Nat):Int)=some (97+(m:Nat)):=by decide +kernel
theorem J2(h:List aw)(n:Int):bO h (.str "abcdefghijklmnopqrstuvwxyz") (.int (n%26))=some (.str (lt n)):=by
 have b:=mM n (show(26:Int)≠0 by decide)
 have d:=ye n (show(0:Int)<26 by decide)
 obtain⟨m,a⟩:=Int.eq_ofNat_of_zero_le b;have:=F8 ⟨m,by lia⟩
 show(if(Str.ofString "abcdefghijklmnopqrstuvwxyz").length<=gu then(L2.lF (Str.ofString "abcdefghijklmnopqrstuvwxyz").cps.toList (n%26)).map λc=>PV.str ⟨#[c]⟩else none)=_
 rw[if_pos (by decide +kernel),a,this]
 show some (PV.str ⟨#[97+m]⟩)=some (PV.str ⟨#[cp n]⟩);unfold cp;rw[a,eZ]
theorem Yh{a b:Int}(h:cp a=cp b):a%26=b%26:=by
 unfold cp at h;have c:=mM a (show(26:Int)≠0 by decide)
 have d:=mM b (show(26:Int)≠0 by decide)
 lia
abbrev Zj:PV:=.str "abcdefghijklmnopqrstuvwxyz"
def O5(B:List Int)(pl q i:Nat):Nat:=cp (B.getD i 0+(q:Int)*(if i=pl then 1 else 0))
def F9(B:List Int)(pl q:Nat):Str:=fz ((List.range B.length).map (O5 B pl q))
def oS(i:Nat):PV:=.int (0+(i:Int))
theorem mw{a:Gx (List PV)}{s s1:cL}{j:Nat}(h:Ev a s [iN j] s1)(b:j<=4000000):Ev (Jq (vy zq a)) s (.sq ((List.range j).map oS)) s1:=by
 refine sG (eB h ?_);show Option.map _ (if RD 0 (j:Int)=true then some (Mr 0 (j:Int).toNat)else none)=_
 rw[if_pos (by unfold RD;rw[kK];lia),eZ]
 rfl
section
variable (c:CT) (x0 x1:Option PV) (B:List Int) (pl q:Nat)
def nS(x0 x1:Option PV)(B:List Int)(pl:Nat)(a b d:Option PV)(F:List PV):cL:=⟨[x0,x1,some Zj,some (iN B.length),some (iN pl),a,some (.lst (B.map .int)),some (.ref 0),b,d],[⟨.lst,F⟩]⟩
theorem C8(F:List PV)(i:Nat)(d:i<B.length)(N:List Nat)(hN:N.length<=100)(l:q<=100):Ev (uL c) (nS x0 x1 B pl (some (oS i)) (some (oS q)) (some (.str (fz N))) F) .nx (nS x0 x1 B pl (some (oS i)) (some (oS q)) (some (.str (fz (N++[O5 B pl q i])))) F):=by
 have b:∀j:Nat,oS j=iN j:=λj=>by unfold oS iN;rw[mP]
 rw[b,b];have f:∀h,bO h (.lst (B.map PV.int)) (.int (i:Int))=some (.int (B.getD i 0)):=λ_=>atI_nat (by rw[bP,List.getD_eq_getElem?_getD,b6 d];rfl)
 have he:∀h,Jb h [.bl ((i:Int)==(pl:Int))]=some (.int (if i=pl then 1 else 0)):=λh=>by
  by_cases a:i=pl
  ·rw[if_pos a,a,mJ];rfl
  ·rw[if_neg a,show((i:Int)==(pl:Int))=false by rw[fV];lia];rfl
 have g:∀h,vx h (.int (q:Int)) (.int (if i=pl then 1 else 0))=some (.int ((q:Int)*(if i=pl then 1 else 0))):=λh=>C7 (.inr (by split<;>decide))
 have k:∀h,fj h (.str (fz N)) (.str (lt (B.getD i 0+(q:Int)*(if i=pl then 1 else 0))))=some (.str (fz (N++[O5 B pl q i]))):=λh=>by
  have e:fj h (.str (fz N)) (.str (lt (B.getD i 0+(q:Int)*(if i=pl then 1 else 0))))=sizeOk ((fz N).length+(lt (B.getD i 0+(q:Int)*(if i=pl then 1 else 0))).length) (.str (fz N++lt (B.getD i 0+(q:Int)*(if i=pl then 1 else 0)))):=rfl
  rw[e,acd,F7,HI,HI];exact if_pos (show N.length+1<=gu by have:gu=4000000:=rfl;lia)
 exact aS (b2 rfl (b2 rfl (b2 (b2 (b2 rfl rfl (f _)) (b2 rfl (bV (cA (b2 rfl rfl (qo _ _ _)) rfl) (he _)) (g _)) rfl) rfl (da (by decide))) (J2 _ _)) (k _)) rfl
theorem qQ(F:List PV)(g:q<=100):∀(b a:List Nat) (d:Option PV),List.range B.length=a++b->B.length<=50->∃f,c9 (aW 5) (uL c) (b.map oS) (nS x0 x1 B pl d (some (oS q)) (some (.str (fz (a.map (O5 B pl q))))) F)=some (.ok .nx,nS x0 x1 B pl f (some (oS q)) (some (.str (F9 B pl q))) F)
 | [],a,d,e,_=>⟨d,by unfold F9;rw[e,eG];rfl⟩
 | i::b,a,d,e,j=>by
  have k:i<B.length:=dD.mp (by rw[e];simp)
  have hp:a.length<=B.length:=by
   have:=dq List.length e;rw[fW,aX]at this
   lia
  have l:=C8 c x0 x1 B pl q F i k (a.map (O5 B pl q)) (by rw[ao];lia) g
  obtain⟨f,h⟩:=qQ F g b (a++[i]) (some (oS i)) (by rw[e];simp) j
  rw[cf]at h;exact⟨f,fC rfl l h⟩
theorem J3(F:List PV)(hF:F.length<=100)(d:q<=100)(e:B.length<=50)(a f:Option PV):∃b,Ev (uM c) (nS x0 x1 B pl a (some (oS q)) f F) .nx (nS x0 x1 B pl b (some (oS q)) (some (.str (F9 B pl q))) (F++[.str (F9 B pl q)])):=by
 obtain⟨b,h⟩:=qQ c x0 x1 B pl q F d (List.range B.length) [] a rfl e;refine⟨b,sq (s1:=nS x0 x1 B pl a (some (oS q)) (some (.str (fz []))) F) (by rw[<-HH];rfl) (sq (fS (mw rfl (by lia)) h) (dS (AO rfl rfl (cA rfl rfl) (aC rfl (by lia)))))⟩
end
theorem u0(c:CT)(e f:Option PV)(B:List Int)(pl:Nat)(k:B.length<=50):∀(a:List Nat) (F:List PV) (b g d:Option PV),(∀q∈a,q<=100)->F.length+a.length<=100->∃m i j,c9 (aW 8) (uM c) (a.map oS) (nS e f B pl b g d F)=some (.ok .nx,nS e f B pl m i j (F++a.map λq=>.str (F9 B pl q)))
 | [],F,b,g,d,_,_=>⟨b,g,d,by simp;rfl⟩
 | q::a,F,b,g,d,l,o=>by
  rw[aN]at o;obtain⟨p,h⟩:=J3 c e f B pl q F (by lia) (l q aM) k b d
  obtain⟨t,u,v,w⟩:=u0 c e f B pl k a (F++[.str (F9 B pl q)]) p (some (oS q)) (some (.str (F9 B pl q))) (λr x=>l r (aK _ x)) (by simp;lia)
  refine⟨t,u,v,?_⟩;rw[aO,aO,show F++PV.str (F9 B pl q)::a.map (λq=>PV.str (F9 B pl q))=F++[PV.str (F9 B pl q)]++a.map (λq=>PV.str (F9 B pl q)) by simp]
  exact fC rfl h w
theorem Sr{B:List Int}{pl q a:Nat}(hp:pl<B.length)(h1:q<26)(c:a<26)(h:F9 B pl q=F9 B pl a):q=a:=by
 have h:=xD h;have b:∀q:Nat,((List.range B.length).map (O5 B pl q))[pl]?=some (cp (B.getD pl 0+(q:Int))):=λq=>by
  rw[bP,sy hp];simp[O5]
 have e:=dq (λl=>l[pl]?) h
 simp only[b]at e;have:=Yh (cD e)
 lia
noncomputable def Ao(C:Int):Nat:=(1+C%8).toNat
def Kz(C:Int):List Int:=(List.range (Ao C)).map fun(i:Nat)=>(C/(64+9*(i:Int)*i)+5*(i:Int))%26
def NW(C:Int):Nat:=(C/8%(Ao C:Int)).toNat
theorem oT(C:Int):(Kz C).length=Ao C:=by simp[Kz]
theorem u3(C:Int):1<=Ao C/\Ao C<=8/\(Ao C:Int)=1+C%8:=by unfold Ao;lia
theorem NX(C:Int):NW C<(Kz C).length/\(NW C:Int)=C/8%(Ao C:Int):=by
 have h:=u3 C;have a:=mM (C/8) (show(Ao C:Int)≠0 by lia)
 have b:=ye (C/8) (show(0:Int)<(Ao C:Int) by lia)
 rw[oT];unfold NW
 lia
def iD(C:Int)(q:Nat):Str:=F9 (Kz C) (NW C) q
theorem Ss{C:Int}{q a:Nat}(h1:q<26)(b:a<26)(h:iD C q=iD C a):q=a:=Sr (NX C).1 h1 b h
theorem Ga(C:Int)(q:Nat):(iD C q==(Str.ofString ""))=false:=by
 rw[HH,fV];intro h;have:=dq List.length (xD h);rw[ao,fW,oT]at this;have:=u3 C;simp at *
 lia
theorem J4(C:Int)(c d e f g j k l:Option PV):Ek (dH false [none,none,some 0] (Jq (vy zq Q6)) (lU (aW 1) (op2 gB (op2 fj (op2 iL (rd 2) (op2 fj (kI 64) (op2 vx (op2 vx (kI 9) (rd 1)) (rd 1)))) (op2 vx (kI 5) (rd 1))) (kI 26)))) (S0 [some (.int C),c,d,some (iN (Ao C)),e,f,g,j,k,l]) (.lst ((Kz C).map .int)):=by
 have t:=u3 C;unfold Kz;rw[cy];refine cM (mw (cA rfl rfl) (by lia)) (by rw[fW];lia) λi b=>?_
 have b:=dD.mp b;have m:i<=7:=by lia
 have o:oS i=iN i:=by unfold oS iN;rw[mP]
 rw[o];have u:GS=18446744073709551616\/1000<GS:=by right;decide
 have p:∀h,vx h (.int 9) (.int (i:Int))=some (.int (9*(i:Int))):=λ_=>C7 (.inl (by decide))
 have q:0<=9*(i:Int)*i/\9*(i:Int)*i<=441:=by
  have:i=0\/i=1\/i=2\/i=3\/i=4\/i=5\/i=6\/i=7:=by lia
  rcases this with rfl | rfl | rfl | rfl | rfl | rfl | rfl | rfl<;>simp
 have a:∀h,vx h (.int (9*(i:Int))) (.int (i:Int))=some (.int (9*(i:Int)*i)):=λ_=>C7 (.inr (by
  have:i=0\/i=1\/i=2\/i=3\/i=4\/i=5\/i=6\/i=7:=by lia
  rcases this with rfl | rfl | rfl | rfl | rfl | rfl | rfl | rfl<;>decide))
 have r:∀h,vx h (.int 5) (.int (i:Int))=some (.int (5*(i:Int))):=λ_=>C7 (.inl (by decide))
 exact e1 rfl (b2 (b2 (b2 rfl (b2 rfl (b2 (b2 rfl rfl (p _)) rfl (a _)) rfl) (xB (by lia))) (b2 rfl rfl (r _)) rfl) rfl (da (by decide)))
def nmL(C:Int)(n:Nat):List PV:=(List.range n).map λq=>.str (iD C q)
theorem gJ{b:Type}(f:b->Str):∀l:List b,ai (l.map λa=>PV.str (f a))=true
 | []=>rfl
 | _::l=>by rw[aO];simp[ai,noRef,gJ f l]
theorem Su(k:Nat)(C:Int)(n:Nat)(g:n<=26):Gives (run txt (k+1) "_law_names" [.int C,iN n] []) (.lst (nmL C n)):=by
 have a:=u3 C;have hp:=NX C;rw[FE];obtain⟨i,j,l,h⟩:=u0 (run txt k) (some (.int C)) (some (iN n)) (Kz C) (NW C) (by rw[oT];lia) (List.range n) [] none none none (λq b=>by have:=dD.mp b;lia) (by simp;lia)
 rw[fE]at h;have c:Ev (di (op2 fj (kI 1) (op2 gB (rd 0) (kI 8))) (aW 3)) (S0 [some (.int C),some (iN n),some Zj,none,none,none,none,none,none,none]) .nx (S0 [some (.int C),some (iN n),some Zj,some (iN (Ao C)),none,none,none,none,none,none]):=by
  have e:iN (Ao C)=.int (1+C%8):=by unfold iN;rw[a.2.2]
  rw[e];exact aS (b2 rfl (b2 rfl rfl (da (by decide))) rfl) rfl
 have d:Ev (di (op2 gB (op2 iL (rd 0) (kI 8)) (rd 3)) (aW 4)) (S0 [some (.int C),some (iN n),some Zj,some (iN (Ao C)),none,none,none,none,none,none]) .nx (S0 [some (.int C),some (iN n),some Zj,some (iN (Ao C)),some (iN (NW C)),none,none,none,none,none]):=by
  have e:iN (NW C)=.int (C/8%(Ao C:Int)):=by unfold iN;rw[hp.2]
  rw[e];exact aS (b2 (b2 rfl rfl (xB (by decide))) rfl (da (by lia))) rfl
 have f:nS (some (.int C)) (some (iN n)) (Kz C) (NW C) none none none []=⟨[some (.int C),some (iN n),some Zj,some (iN (Ao C)),some (iN (NW C)),none,some (.lst ((Kz C).map .int)),some (.ref 0),none,none],[⟨.lst,[]⟩]⟩:=by unfold nS;rw[oT]
 rw[f]at h;refine⟨.ref 0,[⟨.lst,nmL C n⟩],?_,ni (gJ _ _)⟩;refine gO (sq rfl (sq c (sq d (sq (aS (J4 C _ _ _ _ _ _ _ _) rfl) (sq rfl (sq (fS (mw (cA rfl rfl) (by lia)) h) (rS rfl)))))))
noncomputable def jf(c:Int):Sh:=match(c%7).toNat with
 | 0=>.bB [.num,.num]
 | 1=>.own
 | 2=>.bN (1+c/7%8)
 | 3=>.num
 | 4=>.bB [.num,.own]
 | 5=>.bB [.bN (1+c/7%8),.own]
 | _=>.bB [.bB [.num,.num],.bN (1+c/7%8)]
theorem Sv(k:Nat)(c:Int):Gives (run txt (k+1) "_law_shape" [.int c] []) (enc (jf c)):=by
 rw[FF];obtain⟨n,a⟩:∃n,n=1+c/7%8:=⟨_,rfl⟩
 have b:Ev (di (mX .aq (ay (kS "strip") (ay (op2 fj (kI 1) (op2 gB (op2 iL (rd 0) (kI 7)) (kI 8))) (bg [])))) (aW 1)) (S0 [some (.int c),none,none,none]) .nx (S0 [some (.int c),some (enc (.bN n)),none,none]):=by
  rw[a];exact aS (tU (cA rfl (cA (b2 rfl (b2 (b2 rfl rfl (xB (by decide))) rfl (da (by decide))) rfl) rfl)) (by simp)) rfl
 have d:∀h,bO h (.lst (bU [.bB [.num,.num],.own,.bN n,.num,.bB [.num,.own],.bB [.bN n,.own]]++bU [.bB [.bB [.num,.num],.bN n]])) (.int (c%7))=some (enc (jf c)):=λh=>by
  have:c%7=0\/c%7=1\/c%7=2\/c%7=3\/c%7=4\/c%7=5\/c%7=6:=by lia
  unfold jf;rcases this with h | h | h | h | h | h | h<;>rw[h,a]<;>rfl
 exact gV (sq b (sq rfl (sq rfl (rS (b2 (b2 rfl rfl (aL (by simp[bU]))) (b2 rfl rfl (da (by decide))) (d _)))))) (dh _)
def ku(r:Rw):PV:=.aq [.aq (r.1.map .int),enc r.2.2.2]
theorem Ap:∀l:List Int,ai (l.map PV.int)=true
 | []=>rfl
 | _::l=>by rw[aO];simp[ai,noRef,Ap l]
theorem ace(r:Rw):noRef (ku r)=true:=by simp[ku,noRef,ai,Ap,dh]
theorem Uv:∀l:List Rw,ai (l.map ku)=true
 | []=>rfl
 | r::l=>by rw[aO];simp[ai,ace,Uv l]
theorem C9(i:Nat)(a:Int)(s:Sh)(r:List Sh):tabs i a (s::r)=(tab s).map (oE i a)++tabs (i+1) (a+sz s) r:=rfl
theorem u4(c:CT)(S:Option PV):∀(b:List Sh) (i:Nat) (acc:List Rw) (a:Int) (f g:Option PV),(∀s∈b,Gives (c "_law_parts" [enc s] []) (.lst ((tab s).map ku)))->acc.length+iI b<=1000 ->
  ∃j k,c9 Qs (uN c) (fM i (bU b)) (S0 [S,some (.lst (acc.map ku)),f,g])=some (.ok .nx,S0 [S,some (.lst ((acc++tabs i a b).map ku)),j,k])
 | [],i,acc,a,f,g,_,_=>⟨f,g,by simp[bU,fM,tabs];rfl⟩
 | s::b,i,acc,a,f,g,h,m=>by
  have o:=h s aM;simp only[iI]at m;obtain⟨j,k,e⟩:=u4 c S b (i+1) (acc++(tab s).map (oE i a)) (a+sz s) (some (.int (i:Int))) (some (enc s)) (λs p=>h s (aK _ p)) (by rw[aX,ao];lia)
  refine⟨j,k,?_⟩;rw[C9,<-b7];have hp:∀r∈tab s,r.1.length<=1000:=λr l=>by have:=Ht s r l;have:=Uq s;lia
  have d:Ev (uN c) (S0 [S,some (.lst (acc.map ku)),some (.int (i:Int)),some (enc s)]) .nx (S0 [S,some (.lst ((acc++(tab s).map (oE i a)).map ku)),some (.int (i:Int)),some (enc s)]):=by
   rw[cf,cy];refine aS (b2 rfl (cM (sV (c7 rfl rfl rfl o) rfl) (by lia) λr l=>?_) (aL (by simp only[ao];lia))) rfl
   have q:=hp r l;exact e1 rfl (tU (cA (b2 rfl rfl (aT (by simp only[aN,yp,ao];lia))) (cA rfl rfl)) (by simp))
  exact fC rfl d e
theorem NY(h:List aw)(s:Sh):jB h (.str (Zi s)) (.str "rec")=some (.bl (!jd s)):=by cases s<;>rfl
theorem qR(s:Sh)(c a b:Option PV):Ev (di (mX .lst (ay (mX .aq (ay (mX .aq (bg [])) (ay (rd 0) (bg [])))) (bg []))) (aW 1)) (S0 [some (enc s),c,a,b]) .nx (S0 [some (enc s),some (.lst [ku ([],0,sz s,s)]),a,b]):=rfl
theorem nj(k:Nat){s:Sh}(h:jd s=true):Gives (run txt (k+1) "_law_parts" [enc s] []) (.lst ((tab s).map ku)):=by
 rw[uO];have he:=NY [] s;rw[h]at he;rw[Nr h];exact gV (sq (qR s none none none) (sq (iF (bT (b2 (b2 rfl rfl (qO _ s)) rfl he)) rfl) (rS rfl))) (by simp[noRef,ai,ace])
theorem J5(k:Nat){ps:List Sh} (h:∀s∈ps,Gives (run txt k "_law_parts" [enc s] []) (.lst ((tab s).map ku))) (a:iI ps<=900):Gives (run txt (k+1) "_law_parts" [enc (.bB ps)] []) (.lst ((tab (.bB ps)).map ku)):=by
 rw[uO];have he:=NY [] (.bB ps);obtain⟨b,c,e⟩:=u4 (run txt k) (some (enc (.bB ps))) ps 0 [([],0,sz (.bB ps),.bB ps)] 0 none none h (by simp;lia)
 have ht:tab (.bB ps)=[([],0,sz (.bB ps),.bB ps)]++tabs 0 0 ps:=by simp[tab,sz,lv]
 rw[ht];exact gV (sq (qR (.bB ps) none none none) (sq (iT (bT (b2 (b2 rfl rfl (qO _ (.bB ps))) rfl he)) (fS (sG (eV (b2 rfl rfl (by simp only[enc];rfl)) rfl)) e)) (rS rfl))) (Uv _)
mutual
theorem Aq:∀(s:Sh) (k:Nat),dp s<=k->(tab s).length<=900->Gives (run txt (k+1) "_law_parts" [enc s] []) (.lst ((tab s).map ku))
 | .num,k,_,_=>nj k rfl
 | .own,k,_,_=>nj k rfl
 | .bN n,k,_,_=>nj k rfl
 | .bB a,0,hd,_=>by simp[dp]at hd
 | .bB a,k+1,hd,d=>by
  have e:(tab (.bB a)).length=iI a+1:=by simp only[tab,aN,gQ]
  have b:qF a<=k:=by simp only[dp]at hd;lia
  exact J5 (k+1) (λs c=>Dc a k b (by lia) s c) (by lia)
theorem Dc:∀(ps:List Sh) (k:Nat),qF ps<=k->iI ps<=900->∀s∈ps,Gives (run txt (k+1) "_law_parts" [enc s] []) (.lst ((tab s).map ku))
 | [],_,_,_,s,a=>by cases a
 | p::r,k,hd,b,s,a=>by
  simp only[qF]at hd;simp only[iI]at b;rcases aU.mp a with e | e
  ·rw[e];exact Aq p k (by lia) (by lia)
  ·exact Dc r k (by lia) (by lia) s e
end
mutual
theorem HJ:∀(s:Sh),∀r∈tab s,(tab r.2.2.2).length<=(tab s).length
 | .num,r,h=>by simp[tab]at h;subst h;simp[tab]
 | .own,r,h=>by simp[tab]at h;subst h;simp[tab]
 | .bN n,r,h=>by simp[tab]at h;subst h;simp[tab]
 | .bB a,r,h=>by
  have b:(tab (.bB a)).length=iI a+1:=by simp only[tab,aN,gQ]
  simp only[tab,aU]at h;rcases h with rfl | h
  ·exact au _
  ·have:=xE a 0 0 r h
   lia
theorem xE:∀(l:List Sh) (k:Nat) (a:Int),∀r∈tabs k a l,(tab r.2.2.2).length<=iI l
 | [],_,_,r,h=>by simp[tabs]at h
 | s::l,k,a,r,h=>by
  simp only[tabs,bI,aE]at h;simp only[iI];rcases h with⟨b,h0,rfl⟩ | h
  ·have:=HJ s b h0;simp only[oE]
   lia
  ·have:=xE l _ _ r h
   lia
end
mutual
def pos:Sh->Bool
 | .bN n=>decide (0<n)
 | .bB a=>NZ a
 | _=>true
def NZ:List Sh->Bool
 | []=>true
 | s::r=>pos s&&NZ r
end
mutual
theorem u5:∀(s:Sh),pos s=true->∀r∈tab s,pos r.2.2.2=true
 | .num,h,r,a=>by simp[tab]at a;subst a;exact h
 | .own,h,r,a=>by simp[tab]at a;subst a;exact h
 | .bN n,h,r,a=>by simp[tab]at a;subst a;exact h
 | .bB b,h,r,a=>by
  simp only[tab,aU]at a;rcases a with rfl | a
  ·exact h
  ·exact xF b (by simpa only[pos]using h) 0 0 r a
theorem xF:∀(l:List Sh),NZ l=true->∀(k:Nat) (a:Int),∀r∈tabs k a l,pos r.2.2.2=true
 | [],_,_,_,r,b=>by simp[tabs]at b
 | s::l,h,k,a,r,b=>by
  simp only[NZ,aY]at h;simp only[tabs,bI,aE]at b;rcases b with⟨c,h0,rfl⟩ | b
  ·exact u5 s h.1 c h0
  ·exact xF l h.2 _ _ r b
end
def HK(s:Sh):Prop:=Ag s/\pos s=true
theorem Ar{s:Sh}(h:Ag s){r:Rw}(a:r∈tab s):Ag r.2.2.2:=by
 have b:=HJ s r a;have c:=(qj s r a).1;have d:=h.1;have e:=h.2;exact⟨by lia,by lia⟩
def cX(s:Sh):Prop:=HK s/\(lv s).length<=3
theorem lN(c:Int):cX (jf c):=by
 have a:0<1+c/7%8/\1+c/7%8<=8:=by lia
 have:c%7=0\/c%7=1\/c%7=2\/c%7=3\/c%7=4\/c%7=5\/c%7=6:=by lia
 unfold jf;rcases this with h | h | h | h | h | h | h<;>rw[h]<;>simp[cX,HK,Ag,tab,tabs,dp,qF,pos,NZ,lv,gP,a]
theorem N0:cX .num:=by simp[cX,HK,Ag,tab,dp,pos,lv]
theorem N1{s:Sh}(h:cX s){r:Rw}(a:r∈tab s):cX r.2.2.2:=by
 obtain⟨⟨b,c⟩,d⟩:=h;exact⟨⟨Ar b a,u5 s c r a⟩,bA (qj s r a).2 d⟩
structure mx (ks:List Rk):Prop where
 nd:(ks.map (·.1)).Nodup
 good:∀q∈ks,HK (bQ q.2)/\(lv (bQ q.2)).length<=3
 few:ks.length<=10
 ne:∀q∈ks,(q.1==(Str.ofString ""))=false
theorem mx.ok{ks:List Rk}(K:mx ks):Yb ks:=λq a=>(K.good q a).1.1
def kw:Kn->Str
 | .ow s=>Zi s
 | .ho b _=>hw b
theorem j0(h:List aw)(k:Kn):bO h (encK k) (.int 0)=some (.str (kw k)):=by
 cases k with
 | ow s=>exact qO h s
 | ho b s=>rfl
theorem oU(h:List aw)(d:Kn):kq false h (.str (kw d)) (.aq [.str "lent",.str "sole"])=some (.bl (fq d)):=by
 cases d with
 | ow s=>cases s<;>kernel_rfl
 | ho b s=>cases b<;>kernel_rfl
theorem N2(h:List aw)(a b:Str):L8 h (.str a) (.str b)=some (.bl (!(a==b))):=rfl
def may(d:Kn):Bool:=!(kw d==(Str.ofString "lent"))
def my(ks:List Rk):List Sp:=ks.flatMap λq=>(tab (bQ q.2)).map λr=>⟨q.1,q.2,r,.bM⟩
def lZ(s:Sp):PV:=.aq [bH s,enc s.r.2.2.2,.bl (may s.d)]
theorem jg{ks:List Rk}(h:Yb ks):∀s∈my ks,cO ks s/\s.a=.bM:=by
 intro s b;obtain⟨q,c,b⟩:=eF.mp b;obtain⟨r,d,rfl⟩:=aE.mp b;exact⟨⟨c,h q c,d,.bM⟩,rfl⟩
theorem As{ks:List Rk}(h:Yb ks):(my ks).length<=100*ks.length:=by
 induction ks with
 | nil=>simp[my]
 | cons q ks ih =>
  have c:=(h q aM).1;have a:=ih λr b=>h r (aK _ b)
  simp only[my,gS,aX,ao,aN]at a ⊢
  lia
theorem oV{ks:List Rk}{q:Rk}(a:q∈ks):(⟨q.1,q.2,([],0,sz (bQ q.2),bQ q.2),.bM⟩:Sp)∈my ks:=eF.mpr ⟨q,a,aE.mpr ⟨_,gR _,rfl⟩⟩
theorem N3(c:CT)(S:Option PV)(x:Str)(d:Kn)(h:Option PV)(T:List Rw):∀(acc:List PV) (a b:Option PV),acc.length+T.length<=90000 ->
  ∃f g,c9 (jP 2 (dX (aW 6) (dX (aW 7) q8))) (FG c) (T.map ku) ⟨[S,some (.ref 0),some (.str x),some (encK d),some (.bl (fq d)),h,a,b],[⟨.lst,acc⟩]⟩=some (.ok .nx,⟨[S,some (.ref 0),some (.str x),some (encK d),some (.bl (fq d)),h,f,g],[⟨.lst,acc++T.map λr=>lZ ⟨x,d,r,.bM⟩⟩]⟩):=by
 induction T with
 | nil=>exact λacc a b _=>⟨a,b,by simp;rfl⟩
 | cons r T ih =>
  intro acc a b i;simp only[aN]at i;obtain⟨f,g,e⟩:=ih (acc++[lZ ⟨x,d,r,.bM⟩]) (some (.aq (r.1.map .int))) (some (enc r.2.2.2)) (by simp;lia)
  refine⟨f,g,?_⟩;rw[b7]at e;rw[aO,aO];exact fC rfl (dS (AO rfl rfl (cA (tU (cA rfl (cA rfl (cA (b2 (b2 rfl rfl (j0 _ d)) rfl (N2 _ _ _)) rfl))) (by simp)) rfl) (aC rfl (by lia)))) e
theorem J7(k:Nat)(hk:3<=k)(S:Option PV)(ks:List Rk):∀(acc:List PV) (f g h i a c:Option PV),Yb ks->acc.length+100*ks.length<=80000 ->
  ∃j l m o p t,c9 Qs (FH (run txt (k+1))) (ks.map bC) ⟨[S,some (.ref 0),f,g,h,i,a,c],[⟨.lst,acc⟩]⟩=some (.ok .nx,⟨[S,some (.ref 0),j,l,m,o,p,t],[⟨.lst,acc++(my ks).map lZ⟩]⟩):=by
 induction ks with
 | nil=>exact λacc f g h i a c _ _=>⟨f,g,h,i,a,c,by simp[my];rfl⟩
 | cons q ks ih =>
  intro acc f g h i a c ho u;simp only[aN]at u;obtain⟨E,H⟩:=ho q aM;obtain⟨v,w,y⟩:=N3 (run txt (k+1)) S q.1 q.2 (some (enc (bQ q.2))) (tab (bQ q.2)) acc a c (by lia)
  obtain⟨j,l,m,o,p,t,e⟩:=ih (acc++(tab (bQ q.2)).map λr=>lZ ⟨q.1,q.2,r,.bM⟩) (some (.str q.1)) (some (encK q.2)) (some (.bl (fq q.2))) (some (enc (bQ q.2))) v w (λr B=>ho r (aK _ B)) (by rw[aX,ao];lia)
  refine⟨j,l,m,o,p,t,?_⟩;have C:(my (q::ks)).map lZ=((tab (bQ q.2)).map λr=>lZ ⟨q.1,q.2,r,.bM⟩)++(my ks).map lZ:=by
   simp[my,gS,cf,cy,Function.comp_def]
  rw[C,<-b7];have ht:=Aq (bQ q.2) k (by lia) (by lia)
  have D:Ev (eH (iu (rd 4)) (di (op2 bO (rd 3) (kI 1)) (aW 5)) (bg .nx)) ⟨[S,some (.ref 0),some (.str q.1),some (encK q.2),some (.bl (fq q.2)),some (encK q.2),a,c],[⟨.lst,acc⟩]⟩ .nx ⟨[S,some (.ref 0),some (.str q.1),some (encK q.2),some (.bl (fq q.2)),some (enc (bQ q.2)),a,c],[⟨.lst,acc⟩]⟩:=by
   obtain⟨x,d⟩:=q;cases d with
   | ow s=>rfl
   | ho b s=>rfl
  exact fC rfl (sq (aS (b2 (b2 rfl rfl (j0 _ q.2)) rfl (oU _ q.2)) rfl) (sq (aS rfl rfl) (sq D (fS (sV (c7 rfl rfl (by simp[ai,dh]) ht) rfl) y)))) e
theorem Ym{a:PV}(b:noRef a=true)(x:Str)(c:Bool)(p:List Int):noRef (NH x c p a)=true:=by simp[NH,noRef,ai,Ap,b]
theorem vZ.nr{ks:List Rk}{a:PV}(h:vZ ks a):noRef a=true:=by cases h<;>rfl
theorem gv{ks:List Rk}{s:Sp}(h:cO ks s):noRef (bH s)=true:=Ym h.at_.nr _ _ _
theorem HL{ks:List Rk}:∀l:List Sp,(∀s∈l,cO ks s)->ai (l.map lZ)=true
 | [],_=>rfl
 | s::l,h=>by rw[aO];simp[ai,noRef,lZ,gv (h s aM),dh,HL l λt ht=>h t (aK _ ht)]
theorem Sx(k:Nat)(hk:3<=k)(ks:List Rk)(h:Yb ks)(b:ks.length<=100):Gives (run txt (k+2) "_law_spots" [.lst (ks.map bC)] []) (.lst ((my ks).map lZ)):=by
 rw[FI];obtain⟨c,d,f,g,i,j,e⟩:=J7 k hk (some (.lst (ks.map bC))) ks [] none none none none none none h (by simp;lia)
 rw[fE]at e;exact⟨.ref 0,_,gO (sq rfl (sq (fS rfl e) (rS rfl))),ni (HL _ λs a=>(jg h s a).1)⟩
def kx(s:Sp):PV:=.aq [bH s,.bl (may s.d)]
noncomputable def iJ(x:Str)(dg:Int)(s:Sp):List Sp:=match s.r.2.2.2 with
 | .num=>[s]
 | .own=>[s]
 | .bN n=>[{s with a:=if dg/8%2=0 then .int (dg%n)else .str x}]
 | .bB _=>[]
def acf:Sh->Bool
 | .num=>true
 | .own=>true
 | _=>false
def Dd:Sh->Bool
 | .bN _=>true
 | _=>false
theorem acg(h:List aw)(s:Sh):kq false h (.str (Zi s)) (.aq [.str "num",.str "own"])=some (.bl (acf s)):=by cases s<;>kernel_rfl
theorem Uw(h:List aw)(s:Sh):jB h (.str (Zi s)) (.str "strip")=some (.bl (Dd s)):=by cases s<;>kernel_rfl
def Yn(S:Option PV)(x:Str)(dg:Int)(acc:List PV)(s:Sp):cL:=⟨[S,some (.str x),some (.int dg),some (.ref 0),some (bH s),some (enc s.r.2.2.2),some (.bl (may s.d))],[⟨.lst,acc⟩]⟩
theorem HM(S:Option PV)(x:Str)(dg:Int)(s:Sp)(acc:List PV)(a:acc.length<90000):Ev (iw (E3 "list" (kr (iH zi)) (rd 3) (ay (mX .aq (ay (rd 4) Qv)) (bg [])))) (Yn S x dg acc s) .nx (Yn S x dg (acc++[kx s]) s):=dS (AO rfl rfl (cA rfl rfl) (aC rfl (by lia)))
theorem N4(c:CT)(S:Option PV)(x:Str)(dg:Int){s:Sp}(hp:pos s.r.2.2.2=true)(acc:List PV)(f:acc.length<90000):Ev (oI c) (Yn S x dg acc s) .nx (Yn S x dg (acc++(iJ x dg s).map kx) s):=by
 have b:=λacc:List PV=>(bT (b2 (b2 rfl rfl (qO _ s.r.2.2.2)) rfl (acg _ s.r.2.2.2)):Ek (toB (op2 (kq false) Qi (mX .aq (ay (kS "num") (ay (kS "own") (bg [])))))) (Yn S x dg acc s) (acf s.r.2.2.2))
 have e:=λacc:List PV=>(bT (b2 (b2 rfl rfl (qO _ s.r.2.2.2)) rfl (Uw _ s.r.2.2.2)):Ek (toB (op2 jB Qi (kS "strip"))) (Yn S x dg acc s) (Dd s.r.2.2.2))
 cases he:s.r.2.2.2 with
 | num =>
  rw[he]at b e;rw[show iJ x dg s=[s] by unfold iJ;rw[he]]
  exact sq (iT (b acc) (HM S x dg s acc f)) (iF (e _) rfl)
 | own =>
  rw[he]at b e;rw[show iJ x dg s=[s] by unfold iJ;rw[he]]
  exact sq (iT (b acc) (HM S x dg s acc f)) (iF (e _) rfl)
 | bB k =>
  rw[he]at b e;rw[show iJ x dg s=[] by unfold iJ;rw[he],pO,eG]
  exact sq (iF (b acc) rfl) (iF (e acc) rfl)
 | bN n =>
  rw[he]at b e hp;have hp:0<n:=by simpa[pos]using hp
  rw[show iJ x dg s=[{s with a:=if dg/8%2=0 then .int (dg%n)else .str x}] by unfold iJ;rw[he]]
  refine sq (iF (b acc) rfl) (iT (e acc) ?_);have i:∀h,bO h (enc s.r.2.2.2) (.int 1)=some (.int n):=λh=>by rw[he];rfl
  have g:Ek (op2 bO (mX .lst (ay (op2 gB (rd 2) (op2 bO (rd 5) (kI 1))) Q1)) (op2 gB (op2 iL (rd 2) (kI 8)) (kI 2))) (Yn S x dg acc s) (if dg/8%2=0 then .int (dg%n)else .str x):=by
   refine b2 (lS (cA (b2 rfl (b2 rfl rfl (i _)) (da hp)) rfl) (by simp)) (b2 (b2 rfl rfl (xB (by decide))) rfl (da (by decide))) ?_
   have:dg/8%2=0\/dg/8%2=1:=by lia
   rcases this with h | h
   ·rw[h];rfl
   ·rw[h];rfl
  obtain⟨a,j⟩:∃a,a=(if dg/8%2=0 then PV.int (dg%n)else .str x):=⟨_,rfl⟩
  rw[<-j]at g ⊢;exact dS (AO rfl rfl (cA (tU (cA (b2 (x:=.aq [.str s.x,.bl (fq s.d),.aq (s.r.1.map .int)]) (cE rfl rfl rfl rfl) (tU (cA g rfl) (by simp)) (aT (by simp))) rfl) (by simp)) rfl) (aC rfl (by lia)))
theorem De(c:CT)(S:Option PV)(x:Str)(dg:Int):∀(T:List Sp) (acc:List PV) (a b f:Option PV),(∀s∈T,pos s.r.2.2.2=true)->acc.length+T.length<=80000 ->
  ∃g i j,c9 Qm (oI c) (T.map lZ) ⟨[S,some (.str x),some (.int dg),some (.ref 0),a,b,f],[⟨.lst,acc⟩]⟩=some (.ok .nx,⟨[S,some (.str x),some (.int dg),some (.ref 0),g,i,j],[⟨.lst,acc++(T.flatMap (iJ x dg)).map kx⟩]⟩)
 | [],acc,a,b,f,_,_=>⟨a,b,f,by simp;rfl⟩
 | s::T,acc,a,b,f,h,k=>by
  simp only[aN]at k;have l:=N4 c S x dg (h s aM) acc (by lia)
  have m:(iJ x dg s).length<=1:=by
   unfold iJ;split<;>simp
  obtain⟨g,i,j,e⟩:=De c S x dg T (acc++(iJ x dg s).map kx) (some (bH s)) (some (enc s.r.2.2.2)) (some (.bl (may s.d))) (λt ht=>h t (aK _ ht)) (by rw[aX,ao];lia)
  refine⟨g,i,j,?_⟩;rw[gS,cf,<-b7];exact fC rfl l e
abbrev Ux(ks:List Rk)(x:Str)(dg:Int):List Sp:=(my ks).flatMap (iJ x dg)
theorem Sy{ks:List Rk}{x:Str}(b:(x,Kn.ow .num)∈ks){dg:Int}{s:Sp}(a:cO ks s):∀t∈iJ x dg s,cO ks t/\t.d=s.d:=λt ht=>by
 unfold iJ at ht;split at ht
 ·rw[aV]at ht;subst ht;exact⟨a,rfl⟩
 ·rw[aV]at ht;subst ht;exact⟨a,rfl⟩
 ·rw[aV]at ht;subst ht;refine⟨⟨a.mem,a.ok,a.row,?_⟩,rfl⟩;show vZ ks (if dg/8%2=0 then _ else _)
  split
  ·exact .int _
  ·exact .str _ b
 ·cases ht
theorem Gb{ks:List Rk}(K:mx ks){x:Str}(a:(x,Kn.ow .num)∈ks)(dg:Int):(∀t∈Ux ks x dg,cO ks t)/\(Ux ks x dg).length<=1000/\∃t∈Ux ks x dg,may t.d=true:=by
 refine⟨λt ht=>?_,?_,?_⟩
 ·obtain⟨s,b,ht⟩:=eF.mp ht;exact(Sy a (jg K.ok s b).1 t ht).1
 ·have c:=As K.ok;have e:=K.few;have:∀T:List Sp,(T.flatMap (iJ x dg)).length<=T.length:=λT=>by
   induction T with
   | nil=>simp
   | cons s T ih =>
    have f:(iJ x dg s).length<=1:=by
     unfold iJ;split<;>simp
    rw[gS,aX,aN]
    lia
  have:=this (my ks);show(List.flatMap (iJ x dg) (my ks)).length<=1000
  lia
 ·refine⟨⟨x,.ow .num,([],0,sz .num,.num),.bM⟩,eF.mpr ⟨_,oV a,?_⟩,?_⟩
  ·simp[iJ,bQ]
  ·show(!((Str.ofString "num")==(Str.ofString "lent")))=true;decide +kernel
theorem N5{ks:List Rk}:∀l:List Sp,(∀s∈l,cO ks s)->ai (l.map kx)=true
 | [],_=>rfl
 | s::l,h=>by rw[aO];simp[ai,noRef,kx,gv (h s aM),N5 l λt ht=>h t (aK _ ht)]
theorem J8(k:Nat){ks:List Rk}(K:mx ks){x:Str}(b:(x,Kn.ow .num)∈ks)(dg:Int):Gives (run txt (k+1) "_law_numbers" [.lst ((my ks).map lZ),.str x,.int dg] []) (.lst ((Ux ks x dg).map kx)):=by
 rw[zY];have d:=As K.ok;have f:=K.few;obtain⟨g,h,i,e⟩:=De (run txt k) (some (.lst ((my ks).map lZ))) x dg (my ks) [] none none none (λs c=>by
  obtain⟨a,j⟩:=jg K.ok s c;exact u5 _ (K.good _ a.mem).1.2 _ a.row) (by simp;lia)
 rw[fE]at e;exact⟨.ref 0,_,gO (sq rfl (sq (fS rfl e) (rS rfl))),ni (N5 _ (Gb K b dg).1)⟩
theorem dB{c:Type}(N:List c)(e:c->PV)(m:Int)(h:0<N.length):∃s∈N,∀H:List aw,bO H (.lst (N.map e)) (.int (m%((N.map e).length:Int)))=some (e s):=by
 rw[ao];have b:=mM m (show(N.length:Int)≠0 by lia)
 have d:=ye m (show(0:Int)<(N.length:Int) by lia)
 obtain⟨j,f⟩:=Int.eq_ofNat_of_zero_le b;have a:j<N.length:=by lia
 refine⟨N[j],List.getElem_mem a,λH=>?_⟩
 rw[f];exact atI_nat (by rw[bP,b6 a];rfl)
theorem ach(h:List aw):QU h (.int 10) (.int 30)=some (.int (10^30)):=by kernel_rfl
theorem ez.nr{ks:List Rk}{o:Op}(h:ez ks o):noRef (fU o)=true:=by
 cases o with
 | n i=>rfl
 | s s=>exact gv h
theorem xG(k:Nat){ks:List Rk}{N:List Sp}(h:∀s∈N,cO ks s)(d:0<N.length)(C m:Int):∃o,Gives (run txt (k+1) "_law_operand" [.int C,.int m,.lst (N.map kx)] []) (fU o)/\ez ks o:=by
 rw[zZ];obtain⟨s,b,e⟩:=dB N kx (m/20) d;have f:0<((N.map kx).length:Int):=by rw[ao];lia
 have a:Ek (toB (op2 jB (op2 gB (op2 iL (rd 1) (kI 5)) (kI 4)) (kI 0))) (S0 [some (.int C),some (.int m),some (.lst (N.map kx))]) (m/5%4==0):=bT (b2 (b2 (b2 rfl rfl (xB (by decide))) rfl (da (by decide))) rfl (qo _ _ _))
 by_cases c:m/5%4=0
 ·rw[c,mJ]at a;exact⟨.n (C%10^30),gV (nz (iT a (rS (b2 rfl (b2 rfl rfl (ach _)) (da (by decide)))))) rfl,trivial⟩
 ·rw[show(m/5%4==0)=false by rw[fV];exact c]at a
  exact⟨.s s,gV (sq (iF a rfl) (rS (b2 (b2 rfl (b2 (b2 rfl rfl (xB (by decide))) (bV (cA rfl rfl) rfl) (da f)) (e _)) rfl rfl))) (gv (h s b)),h s b⟩
theorem N6(h:List aw)(s:Sh):L8 h (.str (Zi s)) (.str "rec")=some (.bl (jd s)):=by cases s<;>kernel_rfl
theorem oX{c:CT}(S:Option PV):∀(ps:List Sh) (ah:List PV) (b:Option PV),(∀s∈ps,Gives (c "_law_leaves" [enc s] []) (.lst (bU (lv s))))->ah.length+(gP ps).length<=4000000 ->
  ∃a,c9 (aW 2) (qL c) (bU ps) (S0 [S,some (.lst ah),b])=some (.ok .nx,S0 [S,some (.lst (ah++bU (gP ps))),a])
 | [],ah,b,_,_=>⟨b,by simp[bU,gP];rfl⟩
 | s::ps,ah,b,h,d=>by
  simp only[gP,aX]at d;have f:Ev (qL c) (S0 [S,some (.lst ah),some (enc s)]) .nx (S0 [S,some (.lst (ah++bU (lv s))),some (enc s)]):=aS (b2 rfl (c7 rfl rfl rfl (h s aM)) (aL (by rw[eJ];lia))) rfl
  obtain⟨a,e⟩:=oX S ps (ah++bU (lv s)) (some (enc s)) (λt ht=>h t (aK _ ht)) (by rw[aX,eJ];lia)
  refine⟨a,?_⟩;have ex:ah++bU (gP (s::ps))=ah++bU (lv s)++bU (gP ps):=by
   simp only[gP,qG,b7]
  rw[ex];show c9 _ _ (enc s::bU ps) _=_;exact fC rfl f e
theorem j4(k:Nat){s:Sh}(h:jd s=true):Gives (run txt (k+1) "_law_leaves" [enc s] []) (.lst [enc s]):=by
 rw[qM];exact gV (nz (iT (bT (b2 (b2 rfl rfl (qO _ s)) rfl ((N6 _ s).trans (by rw[h])))) (rS rfl))) (by simp[noRef,ai,dh])
mutual
theorem jz:∀(s:Sh) (k:Nat),dp s<=k->(lv s).length<=90000->Gives (run txt (k+1) "_law_leaves" [enc s] []) (.lst (bU (lv s)))
 | .num,k,_,_=>j4 k rfl
 | .own,k,_,_=>j4 k rfl
 | .bN n,k,_,_=>j4 k rfl
 | .bB a,0,hd,_=>by simp[dp]at hd
 | .bB a,k+1,hd,b=>by
  simp only[dp]at hd;simp only[lv]at b;rw[qM];obtain⟨c,e⟩:=oX (some (enc (.bB a))) a [] none (iC a k (by lia) b) (by simp;lia)
  rw[fE]at e;have z:lv (.bB a)=gP a:=by simp only[lv]
  rw[z];exact gV (sq (iF (bT (b2 (b2 rfl rfl (qO _ (.bB a))) rfl (N6 _ (.bB a)))) rfl) (sq rfl (sq (fS (sV (b2 rfl rfl (by simp only[enc];rfl)) rfl) e) (rS rfl)))) (rW _)
theorem iC:∀(ps:List Sh) (k:Nat),qF ps<=k->(gP ps).length<=90000->∀s∈ps,Gives (run txt (k+1) "_law_leaves" [enc s] []) (.lst (bU (lv s)))
 | [],_,_,_,s,a=>by cases a
 | p::r,k,hd,b,s,a=>by
  simp only[qF]at hd;simp only[gP,aX]at b;rcases aU.mp a with e | e
  ·rw[e];exact jz p k (by lia) (by lia)
  ·exact iC r k (by lia) (by lia) s e
end
mutual
theorem HN:∀(s:Sh),∀r∈tab s,0<=r.2.1/\0<=r.2.2.1/\r.2.1+r.2.2.1<=((lv s).length:Int)
 | .num,r,h=>by simp only[tab,aV]at h;subst h;simp[lv]
 | .own,r,h=>by simp only[tab,aV]at h;subst h;simp[lv]
 | .bN n,r,h=>by simp only[tab,aV]at h;subst h;simp[lv]
 | .bB a,r,h=>by
  simp only[tab,aU]at h;rcases h with h | h
  ·subst h;simp[lv]
  ·have:=Df a 0 0 r h (by lia)
   simp only[lv]
   lia
theorem Df:∀(l:List Sh) (k:Nat) (a:Int),∀r∈tabs k a l,0<=a->0<=r.2.1/\0<=r.2.2.1/\r.2.1+r.2.2.1<=a+((gP l).length:Int)
 | [],_,_,_,h,_=>nomatch h
 | s::l,k,a,r,h,c=>by
  rw[C9,bI]at h;simp only[gP,aX];rcases h with h | h
  ·obtain⟨q,b,rfl⟩:=aE.mp h;have:=HN s q b;simp only[oE]
   lia
  ·have:=Df l (k+1) (a+sz s) r h (by simp only[sz];lia)
   simp only[sz]at this
   lia
end
structure wb (X:List Str) (Bd:Nat) (a:cP):Prop where
 f0:0<=a.f
 m0:0<=a.m
 few:a.f+a.m<=(Bd:Int)
 nm:a.n∈X\/a.n=""
abbrev DD(ks:List Rk):List Str:=ks.map (·.1)
structure oY (ks:List Rk) (M:Nat) (p:PV) (as:List cP):Prop where
 made:∀F K,uT F ks->noRef F=true->12<=K->NK (run txt K) F p as
 six:as.length<=6
 nx:∀j,j+1<M->Uu M j p
 ok:∀a∈as,wb (DD ks) 3 a
section
variable {ks:List Rk}
theorem HP{F p:PV}{as:List cP}{w fn:Str}{a:List PV}{c:CT}(hp:p=.aq (.str w::a))(h1:jK.lookup w=some fn)(b:X4.lookup fn=some 2)(e:as.length<=6)(h:Gives (c fn [F,p] []) (fQ as))(d:noRef p=true):NK c F p as:=⟨⟨w,fn,a,hp,h1,b,h⟩,by lia,d⟩
theorem kh{M:Nat}{w:Str}{a:List PV}(h1:(w==(Str.ofString "go"))=false)(b:(w==(Str.ofString "if"))=false):∀j,j+1<M->Uu M j (.aq (.str w::a)):=λj c=>⟨w,(λ_=>atI_nat (show(PV.str w::a)[0]?=some (.str w)from rfl)),(λz=>by rw[h1]at z;cases z),(λz=>by rw[b]at z;cases z),λ_ _=>c⟩
theorem xJ(K:mx ks)(w:Str){x:Str}{d:Kn}(a:(x,d)∈ks){r:Rw}(b:r∈tab (bQ d))(t:Str):wb (DD ks) 3 (tA w x d r t):=by
 obtain⟨c,e,g⟩:=HN _ r b;have f:=(K.good _ a).2;simp only at f;exact⟨c,e,by show r.2.1+r.2.2.1<=_;lia,.inl (aE.mpr ⟨_,a,rfl⟩)⟩
theorem j5(K:mx ks)(w:Str){s:Sp}(a:cO ks s)(t:Str):wb (DD ks) 3 (ql w s t):=xJ K w a.mem a.row t
theorem N7{a:PV}(h:vZ ks a):∀q∈Kx a,wb (DD ks) 3 q:=λq b=>by
 cases h with
 | bM=>cases b
 | int i=>cases b
 | str y c =>
  simp only[Kx,aV]at b;subst b;exact⟨pQ 0,(by show(0:Int)<=1;decide),(by show(0:Int)+1<=((3:Nat):Int);decide),.inl (aE.mpr ⟨_,c,rfl⟩)⟩
theorem u6(K:mx ks){o:Op}(ho:ez ks o):∀q∈qm o,wb (DD ks) 3 q:=λq a=>by
 cases o with
 | n i=>cases a
 | s s =>
  rcases bI.mp a with h | h
  ·exact N7 ho.at_ q h
  ·rw[aV]at h;subst h;exact j5 K _ ho _
theorem N8(K:mx ks){s:Sp}(b:cO ks s):∀q∈CQ s,wb (DD ks) 3 q:=λq a=>by
 unfold CQ at a;split at a
 ·rw[aV]at a;subst a;exact j5 K _ b _
 ·rcases bI.mp a with h | h
  ·exact N7 b.at_ q h
  ·rw[aV]at h;subst h;exact j5 K _ b _
theorem Yo(K:mx ks){r:Rk}(a:r∈ks)(t:Str):wb (DD ks) 3 (X9 r.1 r.2 t):=by
 obtain⟨x,d⟩:=r;cases d with
 | ow s=>exact xJ K _ a (gR s) _
 | ho b s=>exact xJ K _ a (gR s) _
theorem Yp(K:mx ks){r:Rk}(a:r∈ks):wb (DD ks) 3 (gvA r.1 r.2):=by
 obtain⟨x,d⟩:=r;cases d with
 | ow s=>exact xJ K _ a (gR s) _
 | ho b s=>exact xJ K _ a (gR s) _
theorem N9:wb (DD ks) 3 CN:=⟨by decide,by decide,by decide,.inr rfl⟩
theorem J9{as:List cP}(h:∀a∈as,wb (DD ks) 3 a):∀a∈dt as,wb (DD ks) 3 a:=λa c=>by
 cases as with
 | nil =>
  simp only[dt,aV]at c;subst c;exact N9
 | cons b l=>exact h a c
theorem HQ(K:mx ks):∀(l:List Rk) (i:Nat),(∀r∈l,r∈ks)->∀q∈lY i l,wb (DD ks) 3 q
 | [],_,_,_,h=>nomatch h
 | r::l,i,a,q,h=>by
  simp only[lY,aU]at h;rcases h with h | h
  ·subst h;exact Yo K (a r aM) _
  ·exact HQ K l (i+1) (λs b=>a s (aK _ b)) q h
theorem Sz(K:mx ks){tk:Option Rk}(ht:∀r,tk=some r->r∈ks):∀q∈v9 tk,wb (DD ks) 3 q:=λq a=>by
 cases tk with
 | none=>cases a
 | some r =>
  have c:=ht r rfl;obtain⟨x,d⟩:=r;cases d with
  | ow s =>
   simp only[v9,aV]at a;subst a;exact xJ K _ c (gR s) _
  | ho b s =>
   simp only[v9,aV]at a;subst a;exact⟨pQ 0,pQ 0,(by show(0:Int)+0<=((3:Nat):Int);decide),.inr rfl⟩
theorem u7{X:List Str}{Bd:Nat}{a b:List cP}(h1:∀q∈a,wb X Bd q)(c:∀q∈b,wb X Bd q):∀q∈a++b,wb X Bd q:=λq d=>(bI.mp d).elim (h1 q) (c q)
theorem K7{K:Nat}(h:12<=K):∃k,K=k+7/\3<=k:=⟨K-7,by lia,by lia⟩
variable (K:mx ks) (M:Nat)
include K
theorem SA{s:Sp}(a:cO ks s){o:Op}(ho:ez ks o){w:Str}(hw:w="put"\/w="fill"):oY ks M (.aq [.str w,bH s,fU o]) (qm o++CQ s):=by
 have d:=je o;have e:=Ai s;have b:(qm o++CQ s).length<=6:=by rw[aX];lia
 refine⟨λF k hF hN hk=>?_,b,?_,u7 (u6 K ho) (N8 K a)⟩
 ·obtain⟨k,rfl,c⟩:=K7 hk;have h:=FQ hF k c w a ho;rcases hw with rfl | rfl
  ·exact HP rfl (by kernel_rfl) (by kernel_rfl) b h (by simp[noRef,ai,gv a,ez.nr ho])
  ·exact HP rfl (by kernel_rfl) (by kernel_rfl) b h (by simp[noRef,ai,gv a,ez.nr ho])
 ·rcases hw with rfl | rfl
  ·exact kh (by decide +kernel) (by decide +kernel)
  ·exact kh (by decide +kernel) (by decide +kernel)
theorem SD{s:Sp}(c:cO ks s)(q:PV)(g:noRef q=true){a b:Op}(d:ez ks a)(e:ez ks b):oY ks M (.aq [.str "set",bH s,q,fU a,fU b]) (qm a++qm b++CQ s):=by
 have i:=je a;have j:=je b;have l:=Ai s;have f:(qm a++qm b++CQ s).length<=6:=by simp only[aX];lia
 refine⟨λF k hF hN hk=>?_,f,kh (by decide +kernel) (by decide +kernel),u7 (u7 (u6 K d) (u6 K e)) (N8 K c)⟩
 obtain⟨k,rfl,h⟩:=K7 hk;exact HP rfl (by kernel_rfl) (by kernel_rfl) f (FT hF k h "set" c q d e) (by simp[noRef,ai,gv c,ez.nr d,ez.nr e,g])
theorem Yq{a:Op}(c:ez ks a)(i:Int){m:Nat}(e:m<M):oY ks M (.aq [.str "if",fU a,.int i,iN m]) (qm a++[]):=by
 have l:=je a;have d:(qm a++[]).length<=6:=by simp only[eG];lia
 refine⟨λF k hF hN hk=>?_,d,λj f=>⟨"if",λ_=>rfl,λz=>absurd z (by decide +kernel),λ_=>⟨m,λ_=>rfl,e⟩,λ_ _=>f⟩,u7 (u6 K c) (λ_ h=>nomatch h)⟩
 obtain⟨k,rfl,g⟩:=K7 hk;exact HP rfl (by kernel_rfl) (by kernel_rfl) d (JY hF k g "if" (iN m) c (b:=.n i) trivial) (by simp[noRef,ai,ez.nr c,iN])
theorem SE{a:Op}(b:ez ks a):oY ks M (.aq [.str "say",fU a]) (qm a):=by
 have e:=je a;have c:(qm a).length<=6:=by lia
 refine⟨λF k hF hN hk=>?_,c,kh (by decide +kernel) (by decide +kernel),u6 K b⟩
 obtain⟨k,rfl,d⟩:=K7 hk;exact HP rfl (by kernel_rfl) (by kernel_rfl) c (FU hF k d "say" b) (by simp[noRef,ai,ez.nr b])
theorem Yr{m:Nat}(a:m<M):oY ks M (.aq [.str "go",iN m]) []:=by
 refine⟨λF k hF hN hk=>?_,by simp,λj b=>⟨"go",λ_=>rfl,λ_=>⟨m,λ_=>rfl,a⟩,λz=>absurd z (by decide +kernel),λ_ z=>absurd z (by decide +kernel)⟩,λ_ h=>nomatch h⟩
 obtain⟨k,rfl,c⟩:=K7 hk;exact HP rfl (by kernel_rfl) (by kernel_rfl) (by simp) (JZ k _) (by simp[noRef,ai,iN])
theorem Ka:oY ks M (.aq [.str "give",.str ""]) []:=by
 refine⟨λF k hF hN hk=>?_,by simp,kh (by decide +kernel) (by decide +kernel),λ_ h=>nomatch h⟩
 obtain⟨k,rfl,a⟩:=K7 hk;exact HP rfl (by kernel_rfl) (by kernel_rfl) (by simp) (Aj k "give") (by simp[noRef,ai])
theorem Oa{r:Rk}(a:r∈ks):oY ks M (.aq [.str "give",.str r.1]) [gvA r.1 r.2]:=by
 refine⟨λF k hF hN hk=>?_,by simp,kh (by decide +kernel) (by decide +kernel),λq b=>?_⟩
 ·obtain⟨k,rfl,c⟩:=K7 hk;exact HP rfl (by kernel_rfl) (by kernel_rfl) (by simp) (CZ hF k c "give" a (K.ok _ a) (K.ne _ a)) (by simp[noRef,ai])
 ·rw[aV]at b;subst b;exact Yp K a
theorem Ob{s t:Sp}(a:cO ks s)(ht:cO ks t):oY ks M (.aq [.str "copy",bH s,bH t]) [ql "read" t "",ql "fill" s ""]:=by
 refine⟨λF k hF hN hk=>?_,by simp,kh (by decide +kernel) (by decide +kernel),λq b=>?_⟩
 ·obtain⟨k,rfl,c⟩:=K7 hk;exact HP rfl (by kernel_rfl) (by kernel_rfl) (by simp) (CS hF k c "copy" a ht) (by simp[noRef,ai,gv a,gv ht])
 ·simp only[aU,eE,e9]at b;rcases b with rfl | rfl
  ·exact j5 K _ ht _
  ·exact j5 K _ a _
theorem Oc{s t:Sp}(a:cO ks s)(ht:cO ks t):oY ks M (.aq [.str "move",bH s,bH t]) [ql "empty" t "",ql "fill" s ""]:=by
 refine⟨λF k hF hN hk=>?_,by simp,kh (by decide +kernel) (by decide +kernel),λq b=>?_⟩
 ·obtain⟨k,rfl,c⟩:=K7 hk;exact HP rfl (by kernel_rfl) (by kernel_rfl) (by simp) (CU hF k c "move" a ht) (by simp[noRef,ai,gv a,gv ht])
 ·simp only[aU,eE,e9]at b;rcases b with rfl | rfl
  ·exact j5 K _ ht _
  ·exact j5 K _ a _
theorem Od{s:Sp}(a:cO ks s):oY ks M (.aq [.str "drop",bH s]) [ql "empty" s ""]:=by
 refine⟨λF k hF hN hk=>?_,by simp,kh (by decide +kernel) (by decide +kernel),λq b=>?_⟩
 ·obtain⟨k,rfl,c⟩:=K7 hk;exact HP rfl (by kernel_rfl) (by kernel_rfl) (by simp) (CV hF k c "drop" a) (by simp[noRef,ai,gv a])
 ·rw[aV]at b;subst b;exact j5 K _ a _
theorem Oe{w:Str}(hw:w="lend"\/w="sole")(x:Str){s:Sp}(a:cO ks s):oY ks M (.aq [.str w,.str x,bH s]) [ql w s x]:=by
 refine⟨λF k hF hN hk=>?_,by simp,?_,λq b=>?_⟩
 ·obtain⟨k,rfl,c⟩:=K7 hk;have h:=CW hF k c w x a;rcases hw with rfl | rfl
  ·exact HP rfl (by kernel_rfl) (by kernel_rfl) (by simp) h (by simp[noRef,ai,gv a])
  ·exact HP rfl (by kernel_rfl) (by kernel_rfl) (by simp) h (by simp[noRef,ai,gv a])
 ·rcases hw with rfl | rfl
  ·exact kh (by decide +kernel) (by decide +kernel)
  ·exact kh (by decide +kernel) (by decide +kernel)
 ·rw[aV]at b;subst b;exact j5 K _ a _
theorem Of(fn:PV)(f:noRef fn=true){a:List Rk}(b:∀r∈a,r∈ks)(g:a.length<=4){tk:Option Rk}(ht:∀r,tk=some r->r∈ks):oY ks M (.aq [.str "call",.str (FV tk),fn,.aq (a.map λr=>.str r.1)]) (lY 0 a++xu::v9 tk):=by
 have i:=uU a 0;have j:(v9 tk).length<=1:=by
  cases tk with
  | none=>simp[v9]
  | some r=>obtain⟨x,d⟩:=r;cases d<;>simp[v9]
 have c:(lY 0 a++xu::v9 tk).length<=6:=by rw[aX,aN,i];lia
 refine⟨λF k hF hN hk=>?_,c,kh (by decide +kernel) (by decide +kernel),u7 (HQ K a 0 b) λq l=>?_⟩
 ·obtain⟨k,rfl,m⟩:=K7 hk;have h:=C4 hF k m hN "call" fn b K.ok (by lia) (λr e=>⟨ht r e,K.ne r (ht r e)⟩)
  exact HP rfl (by kernel_rfl) (by kernel_rfl) c h (by simp[noRef,ai,f,gJ])
 ·rcases aU.mp l with rfl | h
  ·exact⟨by decide,by decide,by decide,.inr rfl⟩
  ·exact Sz K ht q h
end
theorem lx{a b:Str}{xs c:List Tr}(h:eqT (.aq (.str a::xs)) (.aq (.str b::c))=true):(a==b)=true/\nW xs c=true:=dY.mp h
mutual
theorem u9:∀s t:Sh,eqT (xx s) (xx t)=true->s=t
 | .num,.num,_=>rfl
 | .own,.own,_=>rfl
 | .bN n,.bN m,h=>by
  have c:((n==m)&&true)=true:=(lx h).2;rw[yv]at c;rw[bh c]
 | .bB a,.bB b,h=>by
  have c:(nW (oM a) (oM b)&&true)=true:=(lx h).2;rw[yv]at c;rw[HR a b c]
 | .num,.own,h=>absurd (lx h).1 (by decide +kernel)
 | .num,.bN _,h=>absurd (lx h).1 (by decide +kernel)
 | .num,.bB _,h=>absurd (lx h).1 (by decide +kernel)
 | .own,.num,h=>absurd (lx h).1 (by decide +kernel)
 | .own,.bN _,h=>absurd (lx h).1 (by decide +kernel)
 | .own,.bB _,h=>absurd (lx h).1 (by decide +kernel)
 | .bN _,.num,h=>absurd (lx h).1 (by decide +kernel)
 | .bN _,.own,h=>absurd (lx h).1 (by decide +kernel)
 | .bN _,.bB _,h=>absurd (lx h).1 (by decide +kernel)
 | .bB _,.num,h=>absurd (lx h).1 (by decide +kernel)
 | .bB _,.own,h=>absurd (lx h).1 (by decide +kernel)
 | .bB _,.bN _,h=>absurd (lx h).1 (by decide +kernel)
theorem HR:∀a b:List Sh,nW (oM a) (oM b)=true->a=b
 | [],[],_=>rfl
 | s::a,t::b,h=>by
  have h:=dY.mp (show(eqT (xx s) (xx t)&&nW (oM a) (oM b))=true from h)
  rw[u9 s t h.1,HR a b h.2]
 | [],_::_,h=>nomatch h
 | _::_,[],h=>nomatch h
end
def Og:Kn->Tr
 | .ow s=>xx s
 | .ho b s=>.aq [.str (hw b),xx s]
theorem Ys:∀a b:Kn,eqT (Og a) (Og b)=true->a=b
 | .ow s,.ow t,h=>by rw[u9 s t h]
 | .ho a s,.ho b t,h=>by
  have h:=lx h;have c:(eqT (xx s) (xx t)&&true)=true:=h.2;rw[yv]at c;rw[u9 s t c];have d:(hw a==hw b)=true:=h.1;cases a<;>cases b<;>first | rfl | exact absurd d (by decide +kernel)
 | .ow s,.ho b t,h=>by
  exfalso
  cases s<;>cases b<;>exact absurd (lx h).1 (by decide +kernel)
 | .ho b t,.ow s,h=>by
  exfalso
  cases s<;>cases b<;>exact absurd (lx h).1 (by decide +kernel)
structure Cs where
 d1:Kn
 d4:Kn
 d5:Kn
 r1:Option Kn
 pl:Int
noncomputable def pk(C:Cs):Nat->List Kn
 | 0=>[]
 | 1=>if C.pl%2=1 then [C.d1,C.d4]else [C.d4,C.d1]
 | _=>[C.d4,C.d5].take (C.pl/2).toNat++C.d1::[C.d4,C.d5].drop (C.pl/2).toNat
def rk(C:Cs):Nat->Option Kn
 | 0=>none
 | 1=>C.r1
 | _=>some C.d4
inductive Ro where
 | put (fl:Bool) (s:Sp) (o:Op)
 | set (s:Sp) (g:Str) (a b:Op)
 | wc (t s:Sp)
 | nk (t s:Sp)
 | drop (s:Sp)
 | nu (x:Str) (b:Bool) (s:Sp)
 | call (tk:Option Rk) (j:Nat) (ar:List Rk)
 | Ge (a:Op) (i:Int) (m:Nat)
 | go (m:Nat)
 | SF (a:Op)
 | jA (z:Option Rk)
noncomputable def lw(b:Bool):Str:=if b then "sole" else "lend"
abbrev iE(r:Rk):PV:=.str r.1
abbrev KA(r:Option Rk):PV:=.str (FV r)
def cg(fn:Nat->PV):Ro->PV
 | .put c s o=>.aq [.str (if c then "fill" else "put"),bH s,fU o]
 | .set s g a b=>.aq [.str "set",bH s,.str g,fU a,fU b]
 | .wc t s=>.aq [.str "copy",bH t,bH s]
 | .nk t s=>.aq [.str "move",bH t,bH s]
 | .drop s=>.aq [.str "drop",bH s]
 | .nu x b s=>.aq [.str (lw b),.str x,bH s]
 | .call d j e=>.aq [.str "call",KA d,fn j,.aq (e.map iE)]
 | .Ge a i m=>.aq [.str "if",fU a,.int i,iN m]
 | .go m=>.aq [.str "go",iN m]
 | .SF a=>.aq [.str "say",fU a]
 | .jA z=>.aq [.str "give",KA z]
def nsp(s:Sp):Prop:=s.a=.bM\/Dd s.r.2.2.2=true
def vb(C:Cs)(ks:List Rk)(M:Nat):Ro->Prop
 | .put f s o=>cO ks s/\ez ks o/\may s.d=true/\(f=true->s.a=.bM)/\nsp s
 | .set s g a b=>cO ks s/\ez ks a/\ez ks b/\may s.d=true/\nsp s
 | .wc t s=>cO ks t/\cO ks s/\t.a=.bM/\s.a=.bM/\t.r.2.2.2=s.r.2.2.2/\may t.d=true
 | .nk t s=>cO ks t/\cO ks s/\t.a=.bM/\s.a=.bM/\t.r.2.2.2=s.r.2.2.2/\may t.d=true/\fq s.d=false
 | .drop s=>cO ks s/\s.a=.bM/\fq s.d=false
 | .nu x b s=>cO ks s/\s.a=.bM/\(x,Kn.ho b s.r.2.2.2)∈ks/\(b=true->may s.d=true)
 | .call e j c=>j<3/\e.map (·.2)=rk C j/\c.map (·.2)=pk C j/\(∀r∈c,r∈ks)/\c.length<=4/\∀r,e=some r->r∈ks
 | .Ge a _ m=>ez ks a/\m<M
 | .go m=>m<M
 | .SF a=>ez ks a
 | .jA z=>∀r,z=some r->r∈ks
def vc:Ro->List cP
 | .put _ s o=>qm o++CQ s
 | .set s _ a b=>qm a++qm b++CQ s
 | .wc t s=>[ql "read" s "",ql "fill" t ""]
 | .nk t s=>[ql "empty" s "",ql "fill" t ""]
 | .drop s=>[ql "empty" s ""]
 | .nu x b s=>[ql (lw b) s x]
 | .call c _ d=>lY 0 d++xu::v9 c
 | .Ge a _ _=>qm a++[]
 | .go _=>[]
 | .SF a=>qm a
 | .jA none=>[]
 | .jA (some r)=>[gvA r.1 r.2]
theorem Yt{ks:List Rk}(K:mx ks)(M:Nat){fn:Nat->PV}(c:∀j,noRef (fn j)=true){C:Cs}:∀r:Ro,vb C ks M r->oY ks M (cg fn r) (vc r)
 | .put d s o,h=>SA K M h.1 h.2.1 (by cases d<;>first | exact .inl rfl | exact .inr rfl)
 | .set s g a b,h=>SD K M h.1 (.str g) rfl h.2.1 h.2.2.1
 | .wc t s,h=>Ob K M h.1 h.2.1
 | .nk t s,h=>Oc K M h.1 h.2.1
 | .drop s,h=>Od K M h.1
 | .nu x b s,h=>Oe K M (by cases b<;>first | exact .inl rfl | exact .inr rfl) x h.1
 | .call e j f,h=>Of K M (fn j) (c j) h.2.2.2.1 h.2.2.2.2.1 h.2.2.2.2.2
 | .Ge a i m,h=>Yq K M h.1 i h.2
 | .go m,h=>Yr K M h
 | .SF a,h=>SE K M h
 | .jA none,_=>Ka K M
 | .jA (some r),h=>Oa K M (h r rfl)
theorem Oh{ks:List Rk}{M:Nat}{fn:Nat->PV}(c:∀j,noRef (fn j)=true){C:Cs}:∀r:Ro,vb C ks M r->noRef (cg fn r)=true
 | .put d s o,h=>by simp[cg,noRef,ai,gv h.1,ez.nr h.2.1]
 | .set s g a b,h=>by simp[cg,noRef,ai,gv h.1,ez.nr h.2.1,ez.nr h.2.2.1]
 | .wc t s,h=>by simp[cg,noRef,ai,gv h.1,gv h.2.1]
 | .nk t s,h=>by simp[cg,noRef,ai,gv h.1,gv h.2.1]
 | .drop s,h=>by simp[cg,noRef,ai,gv h.1]
 | .nu x b s,h=>by simp[cg,noRef,ai,gv h.1]
 | .call e j f,h=>by simp[cg,noRef,ai,c j,gJ]
 | .Ge a i m,h=>by simp[cg,noRef,ai,ez.nr h.1,iN]
 | .go m,h=>rfl
 | .SF a,h=>by simp[cg,noRef,ai,ez.nr h]
 | .jA z,_=>rfl
def we(fn:Nat->PV)(C:Cs)(ks:List Rk)(M:Nat)(p:PV):Prop:=∃r,p=cg fn r/\vb C ks M r
def Rt(P:PV->Prop)(x:Option (Rs dM×cL)):Prop:=∃p s,x=some (.ok (.rt p),s)/\noRef p=true/\P p
theorem Rt.run{f:Gx dM}{n:Nat}{as:List PV}{P:PV->Prop}(h:Rt P (f ⟨gY n as,[]⟩)):∃p,Gives (er f n as []) p/\P p:=by
 obtain⟨p,⟨d,e⟩,a,b,c⟩:=h;exact⟨p,gV a b,c⟩
theorem xS{f g:Gx dM}{s s1:cL}{P:PV->Prop}(h:Ev f s .nx s1)(k:Rt P (g s1)):Rt P (eS f g s):=by
 obtain⟨p,c,a,b⟩:=k;exact⟨p,c,sq h a,b⟩
theorem xI{e:Gx Bool}{f h:Gx dM}{s s1:cL}{b:Bool}{P:PV->Prop}(hc:Ev e s b s1)(ht:b=true->Rt P (f s1))(g:b=false->Rt P (h s1)):Rt P (eS (eH e f (bg .nx)) h s):=by
 cases b with
 | true =>
  obtain⟨p,d,a,c⟩:=ht rfl;exact⟨p,d,nz (iT hc a),c⟩
 | false =>
  obtain⟨p,d,a,c⟩:=g rfl;exact⟨p,d,sq (iF hc rfl) a,c⟩
theorem xR{a:Gx PV}{s s1:cL}{p:PV}{P:PV->Prop}(h:Ev a s p s1)(b:noRef p=true)(k:P p):Rt P (retS a s):=⟨p,s1,rS h,b,k⟩
theorem oB{f g:Gx Bool}{s:cL}{a b:Bool}(h1:Ev f s a s)(c:Ev g s b s):Ev (eH f (bg true) g) s (a || b) s:=by
 cases a with
 | true=>exact iT h1 rfl
 | false=>exact iF h1 c
theorem nD{f g:Gx Bool}{s:cL}{a b:Bool}(h1:Ev f s a s)(c:Ev g s b s):Ev (eH f g (bg false)) s (a&&b) s:=by
 cases a with
 | true=>exact iT h1 c
 | false=>exact iF h1 rfl
theorem Uy(h:List aw){s t:Sh}(a:Ag s)(ht:Ag t):jB h (enc s) (enc t)=some (.bl (eqT (xx s) (xx t))):=by
 have e1:=toT_enc h s gi (by have:=a.2;show _<1000;lia)
 have b:=toT_enc h t gi (by have:=ht.2;show _<1000;lia)
 show((toT h gi (enc s)).bind λx=>(toT h gi (enc t)).map λy=>eqT x y).map PV.bl=_
 rw[e1,b];rfl
theorem Au{b:Type}{l:List b}(h:l.isEmpty=false):0<l.length:=by
 cases l with
 | nil=>cases h
 | cons a l=>simp
theorem j6{b:Type}{l:List b}{x:b}(h:x∈l):0<l.length:=by
 cases l with
 | nil=>cases h
 | cons a l=>simp
section
variable {ks:List Rk} (K:mx ks) (M:Nat)
abbrev SL(ks:List Rk):PV:=.lst ((my ks).map lZ)
theorem oZ(K:mx ks):∀s∈my ks,cO ks s:=λs a=>(jg K.ok s a).1
theorem vd(K:mx ks):(my ks).length<=1000:=by
 have a:=As K.ok;have b:=K.few
 lia
theorem HS{l:List Sp}{f:Sp->Bool}(h:∀s∈l,cO ks s):∀s∈l.filter f,cO ks s:=λs a=>h s (cU.mp a).1
theorem Yu{c:Type}{link:List (Option Nat)}{fi:Gx AM}{bd:Bd}{s s1:cL}{l:List c}{e G:c->PV}{f:c->Bool}(g:Ev fi s (.sq (l.map e)) s1)(i:l.length<=4000000)(d:∀a∈l,bd (bX link s1.ρ) (e a) s1.h=some (if f a=true then some (G a)else none,s1.h)):Ev (dH false link fi bd) s (.lst ((l.filter f).map G)) s1:=by
 have z:∀l:List c,(∀a∈l,bd (bX link s1.ρ) (e a) s1.h=some (if f a=true then some (G a)else none,s1.h))->(l.map e).filterMap (λp=>match bd (bX link s1.ρ) p s1.h with | some (o,_)=>o | none=>none)=(l.filter f).map G:=by
  intro l;induction l with
  | nil=>exact λ_=>rfl
  | cons a l ih =>
   intro h;have j:=h a aM;have k:=ih λb d=>h b (aK _ d)
   rw[aO,ya,j,k];cases hf:f a<;>simp[List.filter_cons,hf]
 rw[<-z l d];refine cQ g (by rw[ao];exact i) λp hp=>?_
 obtain⟨a,m,rfl⟩:=aE.mp hp;rw[d a m]
theorem SG(s:Sh):kq false [] oP (.lst (bU (lv s)))=some (.bl ((lv s).any kf)):=by
 have hd:=oN (rV s);have e:=toT_encs [] (lv s) gi (by rw[hd];decide)
 have a:Ks [] oP (bU (lv s))=some ((lv s).any kf):=by
  unfold Ks;rw[e,show toT [] gi oP=some (.aq [.str "own"])from rfl,<-Ak]
  rfl
 have e1:kq false [] oP (.lst (bU (lv s)))=(Ks [] oP (bU (lv s))).map λb=>.bl (if false=true then !b else b):=rfl
 rw[e1,a];rfl
def HU(s t:Sp):Bool:=eqT (xx t.r.2.2.2) (xx s.r.2.2.2)&&may t.d
theorem Kb(K:mx ks){s:Sp}(b:Ag s.r.2.2.2)(c e f h i j k:Option PV):Ek (dH false [none,none,none,none,some 5] Qx (oo Qh Qn (rd 1))) (S0 [c,e,f,some (SL ks),h,some (enc s.r.2.2.2),i,j,k]) (.lst (((my ks).filter (HU s)).map bH)):=by
 have l:=vd K;refine Yu (sV rfl rfl) (by lia) λt ht=>?_
 have ok:=oZ K t ht;have g:Ek Qn (S0 [none,some (bH t),some (enc t.r.2.2.2),some (.bl (may t.d)),some (enc s.r.2.2.2)]) (HU s t):=nD (bT (b2 rfl rfl (Uy _ (Ar ok.ok ok.row) b))) (tR rfl rfl);cases a:HU s t with
 | true=>rw[a]at g;exact XX rfl g rfl
 | false=>rw[a]at g;exact XY rfl g
end
theorem HV{ks:List Rk}{N:List Sp}(h:∀s∈N,cO ks s):jB [] (.lst (N.map bH)) (.lst [])=some (.bl N.isEmpty):=by
 have e:∀l:List Sp,(∀s∈l,cO ks s)->∃b,dj (toT [] 999) (l.map bH)=some b/\b.length=l.length:=by
  intro l;induction l with
  | nil=>exact λ_=>⟨[],rfl,rfl⟩
  | cons s l ih =>
   intro h;obtain⟨b,f,c⟩:=ih λt ht=>h t (aK _ ht)
   obtain⟨g,j⟩:∃g,toT [] 999 (bH s)=some g:=by
    have hp:∀p:List Int,dj (toT [] 997) (p.map PV.int)=some (p.map Tr.int):=λp=>by
     induction p with
     | nil=>rfl
     | cons i p ih=>show((dj (toT [] 997) (p.map PV.int)).map _)=_;rw[ih];rfl
    have q:toT [] 998 (.aq (s.r.1.map PV.int))=some (.aq (s.r.1.map Tr.int)):=by
     show((dj (toT [] 997) (s.r.1.map PV.int)).bind (L7 .aq))=_;rw[hp];rfl
    obtain⟨k,m⟩:∃k,toT [] 998 s.a=some k:=by
     have o:=(h s aM).at_
     revert o
     generalize s.a=a
     intro o;cases o<;>exact⟨_,rfl⟩
    refine⟨.aq [.str s.x,.bl (fq s.d),.aq (s.r.1.map Tr.int),k],?_⟩;show((dj (toT [] 998) [.str s.x,.bl (fq s.d),.aq (s.r.1.map PV.int),s.a]).bind (L7 .aq))=_;simp only[dj,q,m];rfl
   refine⟨g::b,?_,by simp[c]⟩
   rw[aO];simp only[dj,j,f];rfl
 obtain⟨b,f,c⟩:=e N h;have e1:toT [] gi (.lst (N.map bH))=some (.lst b):=by
  show((dj (toT [] 999) (N.map bH)).bind (L7 .lst))=_;rw[f];rfl
 show((toT [] gi (.lst (N.map bH))).bind λx=>(toT [] gi (.lst [])).map λy=>eqT x y).map PV.bl=_
 rw[e1];cases N with
 | nil=>cases b with
  | nil=>rfl
  | cons _ _=>simp at c
 | cons _ _=>cases b with
  | nil=>simp at c
  | cons _ _=>rfl
section
variable {ks:List Rk} (K:mx ks) (M:Nat) (fn:Nat->PV) (C:Cs)
include K in
theorem Kc(k:Nat)(hk:3<=k)(w:Str)(a b:Int)(J:0<(my ks).length):∃p,Gives (run txt (k+2) "_law_carried" [.str w,.int a,.int b,SL ks] []) p/\we fn C ks M p:=by
 rw[Aa];refine Rt.run ?_;obtain⟨s,m,L⟩:=dB (my ks) lZ a J;have ok:=oZ K s m;have N:0<(((my ks).map lZ).length:Int):=by rw[ao];lia
 have i:=(Ar ok.ok ok.row);have j:=jz s.r.2.2.2 k (by have:=i.2;lia) (by have:=i.1;have:=xi s.r.2.2.2;lia)
 obtain⟨G,e⟩:∃G,G=(my ks).filter (HU s):=⟨_,rfl⟩
 have q:=Kb K i (some (.str w)) (some (.int a)) (some (.int b)) (some (bH s)) (some (.bl (may s.d))) none none;rw[<-e]at q;have c:∀t∈G,cO ks t:=by rw[e];exact HS (oZ K)
 have u:s.a=.bM:=(jg K.ok s m).2;have v:∀t∈G,t.a=.bM:=by rw[e];exact λt ht=>(jg K.ok t (cU.mp ht).1).2
 have x:∀t∈G,t.r.2.2.2=s.r.2.2.2:=by rw[e];exact λt ht=>u9 _ _ (dY.mp (cU.mp ht).2).1
 have f:∀t∈G,may t.d=true:=by rw[e];exact λt ht=>(dY.mp (cU.mp ht).2).2
 obtain⟨o,ho⟩:∃o,o=(lv s.r.2.2.2).any kf:=⟨_,rfl⟩
 have y:=SG s.r.2.2.2;rw[<-ho]at y;have Q:Ev (di (op2 bO (rd 3) (op2 gB (rd 1) (gL gX Q6))) Qm) (S0 [some (.str w),some (.int a),some (.int b),some (SL ks),none,none,none,none,none]) .nx (S0 [some (.str w),some (.int a),some (.int b),some (SL ks),some (bH s),some (enc s.r.2.2.2),some (.bl (may s.d)),none,none]):=aS (b2 rfl (b2 rfl (bV (cA rfl rfl) rfl) (da N)) (L _)) rfl;refine xS Q (xS (aS q rfl) (xS (aS (b2 rfl (c7 rfl rfl rfl j) y) rfl) ?_));refine xI (oB (bT (b2 rfl rfl (HV c))) (nD (tR rfl rfl) (tR rfl rfl))) (λ_=>?_) λhc=>?_
 ·exact xR rfl rfl ⟨.SF (.n a),rfl,trivial⟩
 ·have g:G.isEmpty=false:=(Bool.or_eq_false_iff.mp hc).1;obtain⟨t,ht,l⟩:=dB G bH b (Au g);have R:0<((G.map bH).length:Int):=by have:=Au g;rw[ao];lia
  have B:Ek (op2 bO (rd 7) (op2 gB (rd 2) Qy)) (S0 [some (.str w),some (.int a),some (.int b),some (SL ks),some (bH s),some (enc s.r.2.2.2),some (.bl (may s.d)),some (.lst (G.map bH)),some (.bl o)]) (bH t):=b2 rfl (b2 rfl (bV (cA rfl rfl) rfl) (da R)) (l _);have D:=gv (c t ht);have E:=gv ok;refine xI (oB (tR rfl rfl) (nD (bT (b2 rfl rfl (fI _ _ _))) (nB (tR rfl rfl)))) (λH=>?_) λ_=>?_
  ·refine xR (tU (cA rfl (cA B (cA rfl rfl))) (by simp)) (by simp[noRef,ai,D,E]) ⟨.nk t s,rfl,c t ht,ok,v t ht,u,x t ht,f t ht,?_⟩
   have I:=(Bool.or_eq_false_iff.mp hc).2;cases o with
   | true=>rw[yv]at I;exact I
   | false =>
    rw[yu]at H;have:=(dY.mp H).2;cases h:fq s.d
    ·rfl
    ·rw[h]at this;cases this
  ·exact xR (tU (cA rfl (cA B (cA rfl rfl))) (by simp)) (by simp[noRef,ai,D,E]) ⟨.wc t s,rfl,c t ht,ok,v t ht,u,x t ht,f t ht⟩
end
section
variable {ks:List Rk} (K:mx ks) (M:Nat) (fn:Nat->PV) (C:Cs)
abbrev KL(ks:List Rk):PV:=.lst (ks.map bC)
def SH(s:Sh)(w:Str)(t:Sp):Bool:=eqT (xx t.r.2.2.2) (xx s)&&(may t.d || w==(Str.ofString "lend"))
theorem Oi(K:mx ks)(b:Bool)(s:Sh)(c:Ag s)(w:Str)(e f h i j k:Option PV):Ek (dH false [none,none,none,none,some 6,some 7] Qx (oo Qh Q9 (rd 1))) (S0 [e,f,h,some (SL ks),i,j,some (encK (.ho b s)),some (.str w),k]) (.lst (((my ks).filter (SH s w)).map bH)):=by
 have l:=vd K;refine Yu (sV rfl rfl) (by lia) λt ht=>?_
 have ok:=oZ K t ht;have g:Ek Q9 (S0 [none,some (bH t),some (enc t.r.2.2.2),some (.bl (may t.d)),some (encK (.ho b s)),some (.str w)]) (SH s w t):=nD (bT (b2 rfl (b2 rfl rfl rfl) (Uy _ (Ar ok.ok ok.row) c))) (oB (tR rfl rfl) (bT (b2 rfl rfl (fI _ _ _))));cases a:SH s w t with
 | true=>rw[a]at g;exact XX rfl g rfl
 | false=>rw[a]at g;exact XY rfl g
theorem Ke(K:mx ks)(b c d e f h i j:Option PV):Ek (dH false [none,none] (jr (rd 2)) (oo (aW 1) Qu (rd 1))) (S0 [b,c,some (KL ks),d,e,f,h,i,j]) (.lst ((ks.filter λq=>fq q.2).map bC)):=by
 have k:=K.few;refine Yu (sV rfl rfl) (by lia) λq l=>?_
 have g:Ek Qu (S0 [none,some (bC q)]) (fq q.2):=bT (b2 (b2 (b2 rfl rfl rfl) rfl (j0 _ q.2)) rfl (oU _ q.2));cases a:fq q.2 with
 | true=>rw[a]at g;exact XX rfl g rfl
 | false=>rw[a]at g;exact XY rfl g
include K in
theorem Kf(k:Nat)(a b:Int)(I:∃q∈ks,fq q.2=true):∃p,Gives (run txt (k+1) "_law_lending" [.int a,.int b,KL ks,SL ks] []) p/\we fn C ks M p:=by
 rw[Ab];refine Rt.run ?_;obtain⟨Y,g,h⟩:=I;have J:0<(ks.filter λq=>fq q.2).length:=j6 (cU.mpr ⟨g,h⟩)
 obtain⟨q,L,v⟩:=dB (ks.filter λq=>fq q.2) bC a J
 obtain⟨e,i⟩:=cU.mp L;have B:0<(((ks.filter λq=>fq q.2).map bC).length:Int):=by rw[ao];lia
 obtain⟨G,N⟩:∃G,G=(ks.filter λq=>fq q.2).map bC:=⟨_,rfl⟩
 have D:=Ke K (some (.int a)) (some (.int b)) (some (SL ks)) none none none none none;rw[<-N]at D v B;obtain⟨x,d⟩:=q;cases d with
 | ow s=>cases i
 | ho c s =>
  obtain⟨w,hw,j,e1⟩:∃w:Str,w=lw c/\(may (.ho c s) || w==(Str.ofString "lend"))=true/\Ek (op2 bO (mX .lst (ay (kS "lend") (ay (kS "sole") (bg [])))) (gL Jb (ay (op2 jB (op2 bO (rd 6) (kI 0)) (kS "sole")) (bg [])))) (S0 [some (.int a),some (.int b),some (KL ks),some (SL ks),some (.lst G),some (.str x),some (encK (.ho c s)),none,none]) (.str w):=by
   cases c with
   | true=>exact⟨"sole",rfl,by show(!((Str.ofString "sole")==(Str.ofString "lent")) || _)=true;decide +kernel,b2 (y:=.int 1) rfl (bV (cA (b2 (b2 rfl rfl (j0 _ _)) rfl (fI _ _ _)) rfl) (by kernel_rfl)) rfl⟩
   | false=>exact⟨"lend",rfl,by show(!((Str.ofString "lent")==(Str.ofString "lent")) || _)=true;decide +kernel,b2 (y:=.int 0) rfl (bV (cA (b2 (b2 rfl rfl (j0 _ _)) rfl (fI _ _ _)) rfl) (by kernel_rfl)) rfl⟩
  have E:=Oi K c s (K.ok _ e) w (some (.int a)) (some (.int b)) (some (KL ks)) (some (.lst G)) (some (.str x)) none;obtain⟨T,f⟩:∃T,T=(my ks).filter (SH s w):=⟨_,rfl⟩
  have l:0<T.length:=by
   rw[f];refine j6 (cU.mpr ⟨oV e,?_⟩);show(eqT (xx s) (xx s)&&(may (.ho c s) || _))=true;rw[kZ,j];rfl
  have H:∀t∈T,cO ks t:=by rw[f];exact HS (oZ K)
  have Q:∀t∈T,t.a=.bM:=by rw[f];exact λt ht=>(jg K.ok t (cU.mp ht).1).2
  have m:∀t∈T,s=t.r.2.2.2:=by rw[f];exact λt ht=>(u9 _ _ (dY.mp (cU.mp ht).2).1).symm
  have o:∀t∈T,c=true->may t.d=true:=by
   rw[f];intro t ht R;have:=(dY.mp (cU.mp ht).2).2;rw[hw,R]at this;rw[show(lw true==Str.ofString "lend")=false by decide +kernel,Bool.or_false]at this
   exact this
  rw[<-f]at E;obtain⟨t,ht,u⟩:=dB T bH b l;have X:0<((T.map bH).length:Int):=by rw[ao];lia
  refine xS (aS D rfl) (xS (aS (b2 rfl (b2 rfl (bV (cA rfl rfl) rfl) (da B)) (v _)) rfl) (xS (aS e1 rfl) (xS (aS E rfl) (xR (tU (cA rfl (cA rfl (cA (b2 rfl (b2 rfl (bV (cA rfl rfl) rfl) (da X)) (u _)) rfl))) (by simp)) (by simp[noRef,ai,gv (H t ht)]) ⟨.nu x c t,by rw[hw];rfl,H t ht,Q t ht,m t ht▸e,o t ht⟩))))
end
theorem SJ{ks:List Rk}{N:List Sp}(h:∀s∈N,cO ks s):L8 [] (.lst (N.map bH)) (.lst [])=some (.bl (!N.isEmpty)):=by
 have e:=HV h;have e1:∀o:Option Bool,o.map PV.bl=some (.bl N.isEmpty)->(o.map λb=>PV.bl !b)=some (.bl (!N.isEmpty)):=λo ho=>by
  cases o with
  | none=>cases ho
  | some b =>
   have:b=N.isEmpty:=by injection ho with z;injection z
   rw[this];rfl
 exact e1 _ e
section
variable {ks:List Rk} (K:mx ks) (M:Nat) (fn:Nat->PV) (C:Cs)
include K in
theorem SK(k:Nat)(w:Str)(a:Int){o:Op}(ho:ez ks o)(hw:∃q∈ks,fq q.2=false):∃p,Gives (run txt (k+1) "_law_small_row" [.str w,.int a,fU o,SL ks] []) p/\we fn C ks M p:=by
 rw[uP];refine Rt.run ?_;have D:=vd K;refine xI (bT (b2 rfl rfl (fI _ _ _))) (λ_=>?_) λ_=>?_
 ·have f:Ek (dH false [none,none,none,none] Qx (oo Qh (ER (iu Q2)) (rd 1))) (S0 [some (.str w),some (.int a),some (fU o),some (SL ks),none,none]) (.lst (((my ks).filter λt=>!fq t.d).map bH)):=by
   refine Yu (sV rfl rfl) (by lia) λt ht=>?_
   have g:Ek (ER (iu Q2)) (S0 [none,some (bH t),some (enc t.r.2.2.2),some (.bl (may t.d))]) (!fq t.d):=nB (tR rfl rfl);cases i:(!fq t.d)with
   | true=>rw[i]at g;exact XX rfl g rfl
   | false=>rw[i]at g;exact XY rfl g
  obtain⟨q,B,m⟩:=hw;obtain⟨T,b⟩:∃T,T=(my ks).filter λt=>!fq t.d:=⟨_,rfl⟩
  have u:0<T.length:=by
   rw[b];exact j6 (cU.mpr ⟨oV B,by show(!fq q.2)=true;rw[m];rfl⟩)
  have e:∀t∈T,cO ks t:=by rw[b];exact HS (oZ K)
  have l:∀t∈T,t.a=.bM:=by rw[b];exact λt ht=>(jg K.ok t (cU.mp ht).1).2
  have v:∀t∈T,fq t.d=false:=by
   rw[b];intro t ht;have:=(cU.mp ht).2;cases h:fq t.d
   ·rfl
   ·rw[h]at this;cases this
  rw[<-b]at f;obtain⟨t,ht,c⟩:=dB T bH a u;have x:0<((T.map bH).length:Int):=by rw[ao];lia
  exact xS (aS f rfl) (xR (tU (cA rfl (cA (b2 rfl (b2 rfl (bV (cA rfl rfl) rfl) (da x)) (c _)) rfl)) (by simp)) (by simp[noRef,ai,gv (e t ht)]) ⟨.drop t,rfl,e t ht,l t ht,v t ht⟩)
 ·have f:Ek (dH false [none,none,none,none] Qx (oo Qh Qf (rd 1))) (S0 [some (.str w),some (.int a),some (fU o),some (SL ks),none,none]) (.lst (((my ks).filter λt=>Dd t.r.2.2.2&&may t.d).map bH)):=by
   refine Yu (sV rfl rfl) (by lia) λt ht=>?_
   have g:Ek Qf (S0 [none,some (bH t),some (enc t.r.2.2.2),some (.bl (may t.d))]) (Dd t.r.2.2.2&&may t.d):=nD (bT (b2 (b2 rfl rfl (qO _ _)) rfl (Uw _ _))) (tR rfl rfl);cases i:(Dd t.r.2.2.2&&may t.d)with
   | true=>rw[i]at g;exact XX rfl g rfl
   | false=>rw[i]at g;exact XY rfl g
  obtain⟨T,b⟩:∃T,T=(my ks).filter λt=>Dd t.r.2.2.2&&may t.d:=⟨_,rfl⟩
  have e:∀t∈T,cO ks t:=by rw[b];exact HS (oZ K)
  have l:∀t∈T,t.a=.bM:=by rw[b];exact λt ht=>(jg K.ok t (cU.mp ht).1).2
  have y:∀t∈T,may t.d=true:=by rw[b];exact λt ht=>(dY.mp (cU.mp ht).2).2
  rw[<-b]at f;refine xS (aS f rfl) (xI (nD (bT (b2 rfl rfl (fI _ _ _))) (bT (b2 rfl rfl (SJ e)))) (λhc=>?_) λ_=>?_)
  ·have j:T.isEmpty=false:=by
    have:=(dY.mp hc).2;cases h:T.isEmpty
    ·rfl
    ·rw[h]at this;cases this
   obtain⟨t,ht,c⟩:=dB T bH a (Au j);have x:0<((T.map bH).length:Int):=by have:=Au j;rw[ao];lia
   exact xR (tU (cA rfl (cA (b2 rfl (b2 rfl (bV (cA rfl rfl) rfl) (da x)) (c _)) (cA rfl rfl))) (by simp)) (by simp[noRef,ai,gv (e t ht),ez.nr ho]) ⟨.put true t o,rfl,e t ht,ho,y t ht,λ_=>l t ht,.inl (l t ht)⟩
  ·exact xR (tU (cA rfl (cA rfl rfl)) (by simp)) (by simp[noRef,ai,ez.nr ho]) ⟨.SF o,rfl,ho⟩
end
theorem lC{a:Gx (List PV)}{s s1:cL}{ps:List PV}(h:Ev a s ps s1)(b:ps.length<=4000000):Ev (yW a) s (.ref s1.h.length) ⟨s1.ρ,s1.h++[⟨.lst,ps⟩]⟩:=eB h (eB (by show(small ps PV.bM).map _=_;rw[show small ps PV.bM=some .bM from if_pos b];rfl) rfl)
structure Yw (C:Cs) (ks:List Rk) (LK OT OW:List Rk) (BK:List (Option Rk)):Prop where
 lk:(∀r∈LK,r∈ks/\r.2=C.d4)/\0<LK.length
 ot:(∀r∈OT,r∈ks/\r.2=C.d5)/\0<OT.length
 ow:(∀r∈OW,r∈ks/\r.2=C.d1)/\0<OW.length
 bk:(∀o∈BK,(∀r,o=some r->r∈ks)/\o.map (·.2)=C.r1)/\0<BK.length
section
variable {ks:List Rk} (K:mx ks) (M:Nat) (fn:Nat->PV) (C:Cs)
def SM(a b:Int)(c d e f:PV)(L T O B:List PV)(pl:Int)(x:Option PV)(h:List aw):cL:=⟨[some (.int a),some (.int b),some c,some (.lst [d,e,f]),some (.lst L),some (.lst T),some (.lst O),some (.lst B),some (.int pl),x],h⟩
include K in
theorem Yx(k:Nat)(a b:Int)(Gw:∀j,noRef (fn j)=true){q y t:List Rk}{D:List (Option Rk)}(Q:Yw C ks q y t D)(hp:0<=C.pl/\C.pl<6):∃p,Gives (run txt (k+1) "_law_call" [.int a,.int b,.aq [.lst [fn 0,fn 1,fn 2],.lst (q.map iE),.lst (y.map iE),.lst (t.map iE),.lst (D.map KA),.int C.pl]] []) p/\we fn C ks M p:=by
 rw[JU];refine Rt.run ?_;obtain⟨i,c,N⟩:=dB q iE b Q.lk.2;obtain⟨E,V8,R⟩:=dB t iE (b/8) Q.ow.2;obtain⟨H,X,Y⟩:=dB y iE (b/8) Q.ot.2;obtain⟨o2,Z,ao2⟩:=dB t iE (b/64) Q.ow.2;obtain⟨l2,Zc,al2⟩:=dB q iE (a/4) Q.lk.2;obtain⟨k1,hk1,ak1⟩:=dB D KA (a/4) Q.bk.2;have zl:0<((q.map iE).length:Int):=by have:=Q.lk.2;rw[ao];lia
 have zo:0<((t.map iE).length:Int):=by have:=Q.ow.2;rw[ao];lia
 have zt:0<((y.map iE).length:Int):=by have:=Q.ot.2;rw[ao];lia
 have zk:0<((D.map KA).length:Int):=by have:=Q.bk.2;rw[ao];lia
 have m:∀r∈q,r∈ks/\r.2=C.d4:=Q.lk.1
 have I:∀r∈t,r∈ks/\r.2=C.d1:=Q.ow.1
 have hT:∀r∈y,r∈ks/\r.2=C.d5:=Q.ot.1
 have hB:∀o∈D,(∀r,o=some r->r∈ks)/\o.map (·.2)=C.r1:=Q.bk.1
 obtain⟨d,e0⟩:∃d,d=fn 0:=⟨_,rfl⟩
 obtain⟨e,e1⟩:∃e,e=fn 1:=⟨_,rfl⟩
 obtain⟨f,e2⟩:∃f,f=fn 2:=⟨_,rfl⟩
 have n0:noRef d=true:=by rw[e0];exact Gw 0
 have n1:noRef e=true:=by rw[e1];exact Gw 1
 have n2:noRef f=true:=by rw[e2];exact Gw 2
 rw[<-e0,<-e1,<-e2];obtain⟨pl,l⟩:∃pl,pl=C.pl:=⟨_,rfl⟩
 rw[<-l]at hp ⊢;obtain⟨L,eL⟩:∃L,L=q.map iE:=⟨_,rfl⟩
 obtain⟨O,eO⟩:∃O,O=t.map iE:=⟨_,rfl⟩
 obtain⟨T,eT⟩:∃T,T=y.map iE:=⟨_,rfl⟩
 obtain⟨B,eB⟩:∃B,B=D.map KA:=⟨_,rfl⟩
 rw[<-eL]at N al2 zl;rw[<-eO]at R ao2 zo;rw[<-eT]at Y zt;rw[<-eB]at ak1 zk;rw[<-eL,<-eO,<-eT,<-eB];obtain⟨g,hCA⟩:∃g,g=PV.aq [.lst [d,e,f],.lst L,.lst T,.lst O,.lst B,.int pl]:=⟨_,rfl⟩
 have ev1:Ev Qa (S0 [some (.int a),some (.int b),some g,none,none,none,none,none,none,none]) .nx (SM a b g d e f L T O B pl none []):=by rw[hCA];rfl
 rw[<-hCA];have d4:∀(v:Int) (x:Option PV) (h:List aw),Ek (toB (op2 jB (op2 gB (rd 0) (kI 4)) (bg (.int v)))) (SM a b g d e f L T O B pl x h) (a%4==v):=λv x h=>bT (b2 (b2 rfl rfl (da (by decide))) rfl (qo _ _ _))
 refine xS ev1 (xI (d4 0 none []) (λ_=>?_) λ_=>?_)
 ·exact xR rfl (by simp[noRef,ai,n0]) ⟨.call none 0 [],by rw[e0];rfl,by decide,rfl,rfl,(λ_ h=>nomatch h),by simp,λ_ h=>nomatch h⟩
 have pkL:∀(x:Option PV) (h:List aw),Ek (op2 bO (rd 4) (op2 gB (rd 1) (gL gX Qk))) (SM a b g d e f L T O B pl x h) (iE i):=λx h=>b2 rfl (b2 rfl (bV (cA rfl rfl) rfl) (da zl)) (N _)
 have pkO:∀(x:Option PV) (h:List aw),Ek (op2 bO (rd 6) (op2 gB (op2 iL (rd 1) (kI 8)) (gL gX Qv))) (SM a b g d e f L T O B pl x h) (iE E):=λx h=>b2 rfl (b2 (b2 rfl rfl (xB (by decide))) (bV (cA rfl rfl) rfl) (da zo)) (R _)
 have pkT:∀(x:Option PV) (h:List aw),Ek (op2 bO (rd 5) (op2 gB (op2 iL (rd 1) (kI 8)) (gL gX (ay (rd 5) (bg []))))) (SM a b g d e f L T O B pl x h) (iE H):=λx h=>b2 rfl (b2 (b2 rfl rfl (xB (by decide))) (bV (cA rfl rfl) rfl) (da zt)) (Y _)
 refine xS (aS (lC (cA (pkL none []) (cA (pkO none []) rfl)) (by simp)) rfl) ?_
 refine xI (d4 1 _ _) (λ_=>?_) λ_=>?_
 ·have d2:Ek (toB (op2 jB (op2 gB (rd 8) (kI 2)) (kI 1))) (SM a b g d e f L T O B pl (some (.ref 0)) [⟨.lst,[iE i,iE E]⟩]) (pl%2==1):=bT (b2 (b2 rfl rfl (da (by decide))) rfl (qo _ _ _))
  have fin:∀(r1 r2:Rk),r1∈ks->r2∈ks->[r1.2,r2.2]=pk C 1->Rt (we fn C ks M) (retS (mX .aq (ay (kS "call") (ay (op2 bO (rd 7) (op2 gB (op2 iL (rd 0) (kI 4)) Qy)) (ay (op2 bO (rd 3) (kI 1)) (ay (gL Ja (ay (rd 9) (bg []))) (bg [])))))) (SM a b g d e f L T O B pl (some (.ref 0)) [⟨.lst,[iE r1,iE r2]⟩])):=by
   intro r1 r2 h1 h2 h3;refine xR (tU (cA rfl (cA (b2 rfl (b2 (b2 rfl rfl (xB (by decide))) (bV (cA rfl rfl) rfl) (da zk)) (ak1 _)) (cA (b2 rfl rfl rfl) (cA (bV rfl rfl) rfl)))) (by simp)) (by simp[noRef,ai,n1]) ⟨.call k1 1 [r1,r2],by rw[e1];rfl,by decide,(hB k1 hk1).2,h3,(λr u=>?_),by simp,(hB k1 hk1).1⟩
   simp only[aU,eE,e9]at u;rcases u with rfl | rfl
   ·exact h1
   ·exact h2
  cases hb:(pl%2==1)with
  | true =>
   rw[hb]at d2;exact xS (iT d2 rfl) (fin E i (I _ V8).1 (m _ c).1 (by rw[(I _ V8).2,(m _ c).2];show _=(if C.pl%2=1 then _ else _);rw[<-l,if_pos (bh hb)]))
  | false =>
   rw[hb]at d2;exact xS (iF d2 rfl) (fin i E (m _ c).1 (I _ V8).1 (by rw[(I _ V8).2,(m _ c).2];show _=(if C.pl%2=1 then _ else _);rw[<-l,if_neg (λz=>by rw[z]at hb;cases hb)]))
 ·refine xS (aS (lC (cA (pkL _ _) (cA (pkT _ _) rfl)) (by simp)) rfl) ?_
  obtain⟨j,hj,hj2⟩:∃j:Nat,pl/2=(j:Int)/\j<=2:=⟨(pl/2).toNat,by lia,by lia⟩
  have agd:Ev (iw (E3 "list" (kr (iH Mg)) (rd 9) (ay (op2 iL (rd 8) (kI 2)) (ay (op2 bO (rd 6) (op2 gB (op2 iL (rd 1) (kI 64)) (gL gX Qv))) (bg []))))) (SM a b g d e f L T O B pl (some (.ref 1)) [⟨.lst,[iE i,iE E]⟩,⟨.lst,[iE i,iE H]⟩]) .nx (SM a b g d e f L T O B pl (some (.ref 1)) [⟨.lst,[iE i,iE E]⟩,⟨.lst,([i,H].take j++o2::[i,H].drop j).map iE⟩]):=by
   refine dS (p:=.bM) (AO (as:=[.int (j:Int),iE o2]) rfl rfl (cA (b2 rfl rfl (by rw[<-hj];exact xB (by decide))) (cA (b2 rfl (b2 (b2 rfl rfl (xB (by decide))) (bV (cA rfl rfl) rfl) (da zo)) (ao2 _)) rfl)) ?_)
   have:j=0\/j=1\/j=2:=by lia
   rcases this with rfl | rfl | rfl<;>rfl
  refine xS agd ?_;obtain⟨J,har⟩:∃J,J=[i,H].take j++o2::[i,H].drop j:=⟨_,rfl⟩
  rw[<-har];have w:(∀r∈J,r∈ks)/\J.length<=4/\J.map (·.2)=pk C 2:=by
   have:j=0\/j=1\/j=2:=by lia
   rcases this with rfl | rfl | rfl
   all_goals
    rw[har];refine⟨λr u=>?_,by simp,?_⟩
    rotate_left
    ·show _=[C.d4,C.d5].take (C.pl/2).toNat++C.d1::[C.d4,C.d5].drop (C.pl/2).toNat;rw[<-l,hj];simp[(I _ Z).2,(m _ c).2,(hT _ X).2]
    simp at u;rcases u with rfl | rfl | rfl
    all_goals first | exact(m _ c).1 | exact(hT _ X).1 | exact(I _ Z).1
  exact xR (tU (cA rfl (cA (b2 rfl (b2 (b2 rfl rfl (xB (by decide))) (bV (cA rfl rfl) rfl) (da zl)) (al2 _)) (cA (b2 rfl rfl rfl) (cA (bV rfl rfl) rfl)))) (by simp)) (by simp[noRef,ai,n2,gJ]) ⟨.call (some l2) 2 J,by rw[e2];rfl,by decide,by show some l2.2=some C.d4;rw[(m _ Zc).2],w.2.2,w.1,w.2.1,λr u=>by cases u;exact(m _ Zc).1⟩
end
theorem SN(m:Int):∃y:Str,∀h,bO h (.str "+-*") (.int (m%3))=some (.str y):=by
 have:m%3=0\/m%3=1\/m%3=2:=by lia
 rcases this with h | h | h<;>rw[h]
 ·exact⟨"+",λ_=>by kernel_rfl⟩
 ·exact⟨"-",λ_=>by kernel_rfl⟩
 ·exact⟨"*",λ_=>by kernel_rfl⟩
theorem agf(h:List aw)(w a b:Str):kq false h (.str w) (.aq [.str a,.str b])=some (.bl (a==w || (b==w || false))):=rfl
theorem Oj{N:List Sp}(r:N.length<=1000)(b c e f h i j k l m o p q:Option PV):Ek (dH false [none,none,none] (jr (rd 6)) (oo Qd (iu (rd 2)) (rd 1))) (S0 [b,c,e,f,h,i,some (.lst (N.map kx)),j,k,l,m,o,p,q]) (.lst ((N.filter λt=>may t.d).map bH)):=by
 refine Yu (sV rfl rfl) (by lia) λs u=>?_
 have g:Ek (iu (rd 2)) (S0 [none,some (bH s),some (.bl (may s.d))]) (may s.d):=tR rfl rfl;cases a:may s.d with
 | true=>rw[a]at g;exact XX (by rw[<-a];rfl) g rfl
 | false=>rw[a]at g;exact XY (by rw[<-a];rfl) g
abbrev mdT(W:List Str)(ks:List Rk)(x:Str)(dg:Int)(a b:PV):PV:=.aq [.lst (W.map .str),KL ks,SL ks,.lst ((Ux ks x dg).map kx),a,b]
abbrev caT(fn:Nat->PV)(a b c:List Rk)(d:List (Option Rk))(pl:Int):PV:=.aq [.lst [fn 0,fn 1,fn 2],.lst (a.map iE),.lst (b.map iE),.lst (c.map iE),.lst (d.map KA),.int pl]
theorem Yy{ks:List Rk}{x:Str}{dg:Int}(h:Yb ks):∀t∈Ux ks x dg,nsp t:=λt ht=>by
 obtain⟨s,b,ht⟩:=eF.mp ht;have a:=(jg h s b).2;unfold iJ at ht;split at ht
 ·rw[aV]at ht;subst ht;exact .inl a
 ·rw[aV]at ht;subst ht;exact .inl a
 ·rename_i e;rw[aV]at ht;subst ht;exact .inr (by show Dd s.r.2.2.2=true;rw[e];rfl)
 ·cases ht
theorem acm(k:Nat)(hk:3<=k){ks:List Rk}(K:mx ks){M:Nat}(hM:0<M){W:List Str}(hW:0<W.length){x:Str}(X:(x,Kn.ow .num)∈ks)(hh:∃q∈ks,fq q.2=true)(dg:Int){fn:Nat->PV}(Gw:∀j,noRef (fn j)=true){C:Cs}{Y Z OW:List Rk}{BK:List (Option Rk)}(Q:Yw C ks Y Z OW BK)(hp:0<=C.pl/\C.pl<6){e:PV}(hln:noRef e=true)(hla:we fn C ks M e)(c:Int) :
  ∃p,Gives (run txt (k+3) "_law_row" [.int c,.int (M:Int),mdT W ks x dg (caT fn Y Z OW BK C.pl) e] []) p/\we fn C ks M p:=by
 obtain⟨J,n2,n3⟩:=Gb K X dg;have n4:=Yy (x:=x) (dg:=dg) K.ok;obtain⟨tm,g,hmy⟩:=n3;obtain⟨N,hN⟩:∃N,N=Ux ks x dg:=⟨_,rfl⟩
 rw[<-hN]at J n2 n4 g;have u:=j6 g;have h0:0<(my ks).length:=j6 (oV X);have hz:0<((W.map PV.str).length:Int):=by rw[ao];lia
 obtain⟨w,_,hwa⟩:=dB W PV.str (F6 c 0) hW;obtain⟨a,ha⟩:∃a,a=F6 c 1:=⟨_,rfl⟩
 obtain⟨b,hb⟩:∃b,b=F6 c 2:=⟨_,rfl⟩
 have ma:=lM (k+1) c (i:=1) (by decide)
 have mb:=lM (k+1) c (i:=2) (by decide)
 have m0:=lM (k+1) c (i:=0) (by decide)
 rw[<-ha]at ma;rw[<-hb]at mb;obtain⟨one,e1,B⟩:=xG (k+1) J u c b;obtain⟨two,e2,o2⟩:=xG (k+1) J u (c/7) a;obtain⟨pc,c1,c2⟩:=Kc K M fn C k hk w a b h0;obtain⟨pl',l1,l2⟩:=Kf K M fn C (k+1) a b hh;obtain⟨pq,q1,q2⟩:=Yx K M fn C (k+1) a b Gw Q hp;obtain⟨ps,s1,s2⟩:=SK K M fn C (k+1) w a B ⟨_,X,rfl⟩;obtain⟨T,hT⟩:∃T,T=N.filter λt=>may t.d:=⟨_,rfl⟩
 have hT0:0<T.length:=by rw[hT];exact j6 (cU.mpr ⟨g,hmy⟩)
 have IK:∀t∈T,cO ks t/\may t.d=true/\nsp t:=by
  rw[hT];exact λt ht=>⟨J t (cU.mp ht).1,(cU.mp ht).2,n4 t (cU.mp ht).1⟩
 obtain⟨t,ht,hta⟩:=dB T bH a hT0;obtain⟨t1,t2,t3⟩:=IK t ht;have hTz:0<((T.map bH).length:Int):=by rw[ao];lia
 obtain⟨pm,hpm⟩:=SN b;obtain⟨j,hj,D⟩:∃j:Nat,a%(M:Int)=(j:Int)/\j<M:=⟨(a%(M:Int)).toNat,by
  have:=mM a (show(M:Int)≠0 by lia)
  lia,by
  have:=ye a (show(0:Int)<(M:Int) by lia)
  have:=mM a (show(M:Int)≠0 by lia)
  lia⟩
 have gm:∀h,gB h (.int a) (.int (M:Int))=some (iN j):=λh=>by
  unfold iN;rw[<-hj];exact da (by lia)
 unfold mdT;rw[<-hN];obtain⟨f,E⟩:∃f,f=caT fn Y Z OW BK C.pl:=⟨_,rfl⟩
 rw[<-E];have q1:Gives (run txt (k+2) "_law_call" [.int a,.int b,f] []) pq:=by rw[E];exact q1
 obtain⟨md,Zl⟩:∃md,md=PV.aq [.lst (W.map .str),KL ks,SL ks,.lst (N.map kx),f,e]:=⟨_,rfl⟩
 rw[NB];refine Rt.run ?_;have a0:Ev Qa (S0 [some (.int c),some (.int (M:Int)),some md,none,none,none,none,none,none,none,none,none,none,none]) .nx (S0 [some (.int c),some (.int (M:Int)),some md,some (.lst (W.map .str)),some (KL ks),some (SL ks),some (.lst (N.map kx)),some f,some e,none,none,none,none,none]):=by rw[Zl];exact aS rfl rfl
 rw[<-Zl];have oc:=Oj n2 (some (.int c)) (some (.int (M:Int))) (some md) (some (.lst (W.map .str))) (some (KL ks)) (some (SL ks)) (some f) (some e) (some (.int a)) (some (.int b)) (some (.str w)) none none;rw[<-hT]at oc;have nc:∀s:cL,s.h=[]->∀as:List PV,(s.h.isEmpty || ai as)=true:=λs h as=>by rw[h];rfl
 obtain⟨S,hS⟩:∃S:cL,S=S0 [some (.int c),some (.int (M:Int)),some md,some (.lst (W.map .str)),some (KL ks),some (SL ks),some (.lst (N.map kx)),some f,some e,some (.int a),some (.int b),some (.str w),some (.lst (T.map bH)),some (fU one)]:=⟨_,rfl⟩
 refine xS a0 (xS (aS (c7 (cA rfl (cA rfl rfl)) rfl rfl ma) rfl) (xS (aS (c7 (cA rfl (cA rfl rfl)) rfl rfl mb) rfl) (xS (aS (b2 (x:=.lst (W.map .str)) rfl (b2 (c7 (cA rfl (cA rfl rfl)) rfl rfl m0) (bV (as:=[.lst (W.map .str)]) (cA rfl rfl) rfl) (da hz)) (hwa _)) rfl) (xS (aS oc rfl) (xS (s1:=S) (aS (c7 (cA rfl (cA rfl (cA rfl rfl))) rfl rfl e1) (by rw[hS];rfl)) ?_)))))
 have l:∀v:Str,Ev (toB (op2 jB (rd 11) (bg (.str v)))) S (w==v) S:=λv=>by rw[hS];exact bT (b2 rfl rfl (fI _ _ _))
 have ot:Ev (op2 bO (rd 12) (op2 gB (rd 9) (gL gX (ay (rd 12) (bg []))))) S (bH t) S:=by rw[hS];exact b2 (x:=.lst (T.map bH)) rfl (b2 (x:=.int a) rfl (bV (as:=[.lst (T.map bH)]) (cA rfl rfl) rfl) (da hTz)) (hta _)
 have m:Ev (rd 9) S (.int a) S:=by rw[hS];rfl
 have H:Ev (rd 10) S (.int b) S:=by rw[hS];rfl
 have I:Ev (rd 1) S (.int (M:Int)) S:=by rw[hS];rfl
 have L:Ev (rd 13) S (fU one) S:=by rw[hS];rfl
 have sh:(S.h.isEmpty)=true:=by rw[hS];rfl
 have cl:∀as:List PV,(S.h.isEmpty || ai as)=true:=λas=>by rw[sh];rfl
 have o:Ev (rd 11) S (.str w) S:=by rw[hS];rfl
 have r4:Ev (rd 4) S (KL ks) S:=by rw[hS];rfl
 have r5:Ev (rd 5) S (SL ks) S:=by rw[hS];rfl
 have r6:Ev (rd 6) S (.lst (N.map kx)) S:=by rw[hS];rfl
 have r7:Ev (rd 7) S f S:=by rw[hS];rfl
 have r8:Ev (rd 8) S e S:=by rw[hS];rfl
 have r0:Ev (rd 0) S (.int c) S:=by rw[hS];rfl
 have nS:noRef (bH t)=true:=gv t1;have nO:noRef (fU one)=true:=ez.nr B;have nO2:noRef (fU two)=true:=ez.nr o2;have R:∀p,we fn C ks M p->noRef p=true:=λp ⟨r,h1,h2⟩=>by rw[h1];exact Oh Gw r h2
 refine xI (l "put") (λ_=>?_) λ_=>?_
 ·exact xR (tU (ps:=[.str "put",bH t,fU one]) (cA rfl (cA ot (cA L rfl))) (by simp)) (by simp[noRef,ai,nS,nO]) ⟨.put false t one,rfl,t1,B,t2,(λz=>nomatch z),t3⟩
 refine xI (l "set") (λ_=>?_) λ_=>?_
 ·exact xR (tU (ps:=[.str "set",bH t,.str pm,fU one,fU two]) (cA rfl (cA ot (cA (b2 (x:=.str "+-*") rfl (b2 H rfl (da (by decide))) (hpm _)) (cA L (cA (c7 (cA (b2 r0 rfl (xB (by decide))) (cA m (cA r6 rfl))) rfl (cl _) e2) rfl))))) (by simp)) (by simp[noRef,ai,nS,nO,nO2]) ⟨.set t pm one two,rfl,t1,B,o2,t2,t3⟩
 refine xI (bT (b2 (x:=.str w) (y:=.aq [.str "copy",.str "move"]) o rfl (agf _ _ _ _))) (λ_=>?_) λ_=>?_
 ·exact xR (c7 (cA o (cA m (cA H (cA r5 rfl)))) rfl (cl _) c1) (R _ c2) c2
 refine xI (l "lend") (λ_=>?_) λ_=>?_
 ·exact xR (c7 (cA m (cA H (cA r4 (cA r5 rfl)))) rfl (cl _) l1) (R _ l2) l2
 refine xI (l "call") (λ_=>?_) λ_=>?_
 ·exact xR (c7 (cA m (cA H (cA r7 rfl))) rfl (cl _) q1) (R _ q2) q2
 refine xI (l "give") (λ_=>?_) λ_=>?_
 ·exact xR r8 hln hla
 refine xI (l "go") (λ_=>?_) λ_=>?_
 ·exact xR (tU (ps:=[.str "go",iN j]) (cA rfl (cA (b2 m I (gm _)) rfl)) (by simp)) rfl ⟨.go j,rfl,D⟩
 refine xI (l "if") (λ_=>?_) λ_=>?_
 ·exact xR (tU (ps:=[.str "if",fU one,.int (b%97),iN j]) (cA rfl (cA L (cA (b2 H rfl (da (by decide))) (cA (b2 m I (gm _)) rfl)))) (by simp)) (by simp[noRef,ai,nO,iN]) ⟨.Ge one (b%97) j,rfl,B,D⟩
 ·exact xR (c7 (cA o (cA m (cA L (cA r5 rfl)))) rfl (cl _) s1) (R _ s2) s2
def mC(a:List Int)(i:Nat):Int:=F6 (cell a (1+i)) (i%4)
abbrev NM(C:Int):PV:=.lst (nmL C 13)
abbrev CE(a:List Int):PV:=.lst ((List.range 7).map λi=>.int (mC a i))
def Kg(a:List Int):List Sh:=[.num,jf (mC a 0),jf (mC a 1),jf (mC a 2)]
abbrev OE(a:List Int):PV:=.lst ((Kg a).map enc)
theorem Ol(C:Int){q:Nat}(h:q<13)(H:List aw):bO H (NM C) (.int (q:Int))=some (.str (iD C q)):=atI_nat (by unfold nmL;rw[bP,sy h];rfl)
theorem Uz(a:List Int){q:Nat}(h:q<7)(H:List aw):bO H (CE a) (.int (q:Int))=some (.int (mC a q)):=atI_nat (by rw[bP,sy h];rfl)
theorem Yz(b:List Int):∀s∈Kg b,cX s:=λs a=>by
 simp only[Kg,aU,eE,e9]at a;rcases a with rfl | rfl | rfl | rfl
 ·exact N0
 ·exact lN _
 ·exact lN _
 ·exact lN _
noncomputable def YA(S:Option PV)(a:PV)(i:Nat)(CC b:PV)(acc:List PV)(c d:Option PV):cL:=⟨[S,some a,some (.int (i:Int)),some CC,some b,some (.ref 0),c,d],[⟨.lst,acc⟩]⟩
theorem o8(k:Nat)(hk:3<=k)(C:Int)(a:List Int)(S:Option PV){i:Nat}(R:i<4)(acc:List PV)(X:acc.length<=100)(x y:Option PV):∃(d:Kn) (B D:Option PV),Ev (JS (run txt (k+1))) (YA S (NM C) i (CE a) (OE a) acc x y) .nx (YA S (NM C) i (CE a) (OE a) (acc++[bC (iD C (4+i),d)]) B D)/\fq d=true/\cX (bQ d):=by
 obtain⟨m,E⟩:∃m,m=mC a (3+i):=⟨_,rfl⟩
 have hc:=Uz a (q:=3+i) (by lia)
 rw[<-E]at hc;obtain⟨CC,c⟩:∃CC,CC=CE a:=⟨_,rfl⟩
 rw[<-c]at hc;rw[<-c];have o:=Ol C (q:=4+i) (by lia)
 obtain⟨g,p⟩:∃g,g=NM C:=⟨_,rfl⟩
 rw[<-p]at o;rw[<-p];have H:∀h,fj h (.int 3) (.int (i:Int))=some (.int ((3+i:Nat):Int)):=λ_=>dq (λz=>some (PV.int z)) (by lia)
 have I:∀h,fj h (.int 4) (.int (i:Int))=some (.int ((4+i:Nat):Int)):=λ_=>dq (λz=>some (PV.int z)) (by lia)
 obtain⟨s,J,t⟩:∃s∈Kg a,∀h,bO h (OE a) (.int (1+m%3))=some (enc s):=by
  have:m%3=0\/m%3=1\/m%3=2:=by lia
  rcases this with h | h | h
  ·rw[h];exact⟨jf (mC a 0),by simp[Kg],λ_=>(atI_nat rfl:L2.lF ((Kg a).map enc) ((1:Nat):Int)=_)⟩
  ·rw[h];exact⟨jf (mC a 1),by simp[Kg],λ_=>(atI_nat rfl:L2.lF ((Kg a).map enc) ((2:Nat):Int)=_)⟩
  ·rw[h];exact⟨jf (mC a 2),by simp[Kg],λ_=>(atI_nat rfl:L2.lF ((Kg a).map enc) ((3:Nat):Int)=_)⟩
 have fs:=Yz a s J;obtain⟨j,e⟩:∃j,j=OE a:=⟨_,rfl⟩
 rw[<-e]at t;rw[<-e];have hp:=Aq s k (by have:=fs.1.1.2;lia) (by have:=fs.1.1.1;lia)
 obtain⟨r,L,f⟩:=dB (tab s) ku (m/9) (jU s);have u:0<(((tab s).map ku).length:Int):=by have:=jU s;rw[ao];lia
 obtain⟨T,M⟩:∃T,T=(tab s).map ku:=⟨_,rfl⟩
 rw[<-M]at hp f u;obtain⟨b,N⟩:∃b:Bool,∀h,bO h (.lst [.str "lent",.str "sole",.str "sole"]) (.int (m/3%3))=some (.str (hw b)):=by
  have:m/3%3=0\/m/3%3=1\/m/3%3=2:=by lia
  rcases this with h | h | h
  ·rw[h];exact⟨false,λ_=>rfl⟩
  ·rw[h];exact⟨true,λ_=>rfl⟩
  ·rw[h];exact⟨true,λ_=>rfl⟩
 refine⟨.ho b r.2.2.2,some (.lst T),some (.str (hw b)),?_,rfl,N1 fs L⟩;have l:∀(v w:Option PV),Ek (op2 bO (rd 3) (op2 fj (kI 3) (rd 2))) (YA S g i CC j acc v w) (.int m):=λv w=>b2 rfl (b2 rfl rfl (H _)) (hc _)
 refine sq (aS (c7 (cA (b2 rfl (b2 rfl (b2 (l _ _) rfl (da (by decide))) rfl) (t _)) rfl) rfl (by simp[ai,dh]) hp) rfl) (sq (aS (b2 rfl (b2 (b2 (l _ _) rfl (xB (by decide))) rfl (da (by decide))) (N _)) rfl) ?_)
 have Q:∀h,gX h [.lst T]=some (.int (T.length:Int)):=λ_=>rfl
 exact dS (AO rfl rfl (cA (tU (cA (b2 rfl (b2 rfl rfl (I _)) (o _)) (cA (tU (cA rfl (cA (b2 (b2 rfl (b2 (b2 (l _ _) rfl (xB (by decide))) (bV (cA rfl rfl) (Q _)) (da u)) (f _)) rfl rfl) rfl)) (by simp)) rfl)) (by simp)) rfl) (aC rfl (by lia)))
abbrev ltL(C:Int)(a:List Int)(d4 d5 b c:Kn):List Rk:=[(iD C 0,.ow .num),(iD C 1,.ow (jf (mC a 0))),(iD C 2,.ow (jf (mC a 1))),(iD C 3,.ow (jf (mC a 2))),(iD C 4,d4),(iD C 5,d5),(iD C 6,b),(iD C 7,c)]
theorem ve:∀l:List Rk,ai (l.map bC)=true
 | []=>rfl
 | r::l=>by rw[aO];simp[ai,noRef,bC,rY,ve l]
theorem YB(k:Nat)(hk:3<=k)(C:Int)(a:List Int):∃d4 d5 c d:Kn,Gives (run txt (k+2) "_law_lets" [vK a,NM C] []) (.lst ((ltL C a d4 d5 c d).map bC))/\(fq d4=true/\cX (bQ d4))/\(fq d5=true/\cX (bQ d5))/\(fq c=true/\cX (bQ c))/\(fq d=true/\cX (bQ d)):=by
 obtain⟨S,hS⟩:∃S,S=vK a:=⟨_,rfl⟩
 have I:∀i:Nat,Gives (run txt (k+1) "_law_cell_at" [S,.int (i:Int)] []) (.int (cell a i)):=λi=>by rw[hS];exact NV k a i
 obtain⟨b,p⟩:∃b,b=(([(iD C 0,.ow .num),(iD C 1,.ow (jf (mC a 0))),(iD C 2,.ow (jf (mC a 1))),(iD C 3,.ow (jf (mC a 2)))]:List Rk).map bC):=⟨_,rfl⟩
 have J:b.length=4:=by rw[p];rfl
 obtain⟨d4,r,t,L,M⟩:=o8 k hk C a (some S) (i:=0) (by decide) b (by lia) none none
 obtain⟨d5,u,v,N,Q⟩:=o8 k hk C a (some S) (i:=1) (by decide) (b++[bC (iD C 4,d4)]) (by simp;lia) r t
 obtain⟨c,w,B,R,T⟩:=o8 k hk C a (some S) (i:=2) (by decide) (b++[bC (iD C 4,d4)]++[bC (iD C 5,d5)]) (by simp;lia) u v
 obtain⟨d,v6,v7,D,X⟩:=o8 k hk C a (some S) (i:=3) (by decide) (b++[bC (iD C 4,d4)]++[bC (iD C 5,d5)]++[bC (iD C 6,c)]) (by simp;lia) w B
 refine⟨d4,d5,c,d,?_,M,Q,T,X⟩;rw[JT,<-hS];have Y:Ek (dH false [none,none,some 0] (Jq (vy zq (ay (kI 7) (bg [])))) (lU (aW 1) (bnd (ay (bnd (ay (rd 2) (ay (op2 fj (kI 1) (rd 1)) (bg []))) (bJ 0 2 (run txt (k+1) "_law_cell_at"))) (ay (op2 gB (rd 1) (kI 4)) (bg []))) (bJ 0 2 (run txt (k+1) "_law_mixed"))))) (S0 [some S,some (NM C),none,none,none,none,none,none]) (CE a):=by
  refine cM (mw (cA rfl rfl) (by lia)) (by simp) λi e=>?_
  have f:oS i=iN i:=by unfold oS iN;rw[mP]
  rw[f];have h1:∀h,fj h (.int 1) (.int (i:Int))=some (.int ((1+i:Nat):Int)):=λ_=>dq (λz=>some (PV.int z)) (by lia)
  have Z:∀h,gB h (.int (i:Int)) (.int 4)=some (.int ((i%4:Nat):Int)):=λh=>by
   rw[da (by decide)]
   exact dq (λz=>some (PV.int z)) (by lia)
  exact e1 rfl (c7 (cA (c7 (cA rfl (cA (b2 rfl rfl (h1 _)) rfl)) rfl rfl (I (1+i))) (cA (b2 rfl rfl (Z _)) rfl)) rfl rfl (lM k (cell a (1+i)) (by lia)))
 have c2:Ek (op2 fj (mX .lst (ay (mX .aq (ay (kS "num") (bg []))) (bg []))) (dH false [none,none,some 3] (Jq (vy zq (ay (kI 3) (bg [])))) (lU (aW 1) (bnd (ay (op2 bO (rd 2) (rd 1)) (bg [])) (bJ 0 1 (run txt (k+1) "_law_shape")))))) (S0 [some S,some (NM C),none,some (CE a),none,none,none,none]) (OE a):=by
  refine b2 (x:=.lst [enc .num]) (y:=.lst ((List.range 3).map λi=>enc (jf (mC a i)))) rfl (cM (mw (j:=3) (cA rfl rfl) (by lia)) (by simp) λi e=>?_) (aL (by simp))
  have e:=dD.mp e;have f:oS i=iN i:=by unfold oS iN;rw[mP]
  rw[f];have hc:=Uz a (q:=i) (by lia)
  obtain⟨CC,g⟩:∃CC,CC=CE a:=⟨_,rfl⟩
  rw[<-g]at hc;rw[<-g];exact e1 (EW:=[none,some (iN i),some CC]) (h1:=[]) rfl (c7 (cA (b2 (x:=CC) (y:=.int (i:Int)) rfl rfl (hc _)) rfl) rfl rfl (Sv k (mC a i)))
 have c3:Ev (di (dH true [none,none,some 1,some 4] (Jq (vy zq (ay (kI 4) (bg [])))) (lU (aW 1) (mX .aq (ay (op2 bO (rd 2) (rd 1)) (ay (op2 bO (rd 3) (rd 1)) (bg [])))))) (aW 5)) (S0 [some S,some (NM C),none,some (CE a),some (OE a),none,none,none]) .nx ⟨[some S,some (NM C),none,some (CE a),some (OE a),some (.ref 0),none,none],[⟨.lst,b⟩]⟩:=by
  have ea:b=(List.range 4).map λi=>PV.aq [.str (iD C i),enc ((Kg a).getD i .num)]:=by rw[p];rfl
  rw[ea];refine aS (cN (mw (j:=4) (cA rfl rfl) (by lia)) (by simp) (cF _ λi e=>?_)) rfl
  have e:=dD.mp e;have f:oS i=iN i:=by unfold oS iN;rw[mP]
  rw[f];have E:=Ol C (q:=i) (by lia)
  have ho:∀h,bO h (OE a) (.int (i:Int))=some (enc ((Kg a).getD i .num)):=λ_=>(atI_nat (by
   have:i=0\/i=1\/i=2\/i=3:=by lia
   rcases this with rfl | rfl | rfl | rfl<;>rfl):L2.lF ((Kg a).map enc) (i:Int)=_)
  obtain⟨m,H⟩:∃m,m=NM C:=⟨_,rfl⟩
  rw[<-H]at E;rw[<-H];obtain⟨o,l⟩:∃o,o=OE a:=⟨_,rfl⟩
  rw[<-l]at ho;rw[<-l];exact e1 (EW:=[none,some (iN i),some m,some o]) (h1:=[]) rfl (tU (cA (b2 (x:=m) (y:=.int (i:Int)) rfl rfl (E _)) (cA (b2 (x:=o) (y:=.int (i:Int)) rfl rfl (ho _)) rfl)) (by simp))
 have hl:b++[bC (iD C 4,d4)]++[bC (iD C 5,d5)]++[bC (iD C 6,c)]++[bC (iD C 7,d)]=(ltL C a d4 d5 c d).map bC:=by rw[p];rfl
 rw[hl]at D;refine⟨.ref 0,_,gO (sq (aS Y rfl) (sq (aS c2 rfl) (sq c3 (sq (fS (mw (j:=4) (cA rfl rfl) (by lia)) (fC (s1:=YA (some S) (NM C) 0 (CE a) (OE a) b none none) rfl L (fC (s1:=YA (some S) (NM C) 1 (CE a) (OE a) (b++[bC (iD C 4,d4)]) r t) rfl N (fC (s1:=YA (some S) (NM C) 2 (CE a) (OE a) (b++[bC (iD C 4,d4)]++[bC (iD C 5,d5)]) u v) rfl R (fC (s1:=YA (some S) (NM C) 3 (CE a) (OE a) (b++[bC (iD C 4,d4)]++[bC (iD C 5,d5)]++[bC (iD C 6,c)]) w B) rfl D rfl))))) (rS rfl))))),ni (ve _)⟩
theorem acq(h:List aw):QU h (.int 10) (.int 12)=some (.int (10^12)):=by kernel_rfl
theorem sd(m:Int):m%4=0\/m%4=1\/m%4=2\/m%4=3:=by lia
structure Md where
 C:Int
 s1:Sh
 s2:Sh
 s3:Sh
 b4:Bool
 t4:Sh
 b5:Bool
 t5:Sh
 d6:Kn
 d7:Kn
 pl:Int
 bk:Int
 L:List Ro
namespace Md
variable (m:Md)
abbrev d4:Kn:=.ho m.b4 m.t4
abbrev d5:Kn:=.ho m.b5 m.t5
def nm(i:Nat):Str:=iD m.C i
def P:List Rk:=if m.pl%2=1 then [(m.nm 9,.ow m.s1),(m.nm 8,m.d4)]else [(m.nm 8,m.d4),(m.nm 9,.ow m.s1)]
def LT:List Rk:=[(m.nm 0,.ow .num),(m.nm 1,.ow m.s1),(m.nm 2,.ow m.s2),(m.nm 3,.ow m.s3),(m.nm 4,m.d4),(m.nm 5,m.d5),(m.nm 6,m.d6),(m.nm 7,m.d7)]
def ks:List Rk:=m.P++m.LT
noncomputable def so1:List Nat:=if m.bk%4=2 then [8]else []
noncomputable def so2:List Nat:=if m.bk/4%4=0 then []else if m.bk/4%4=1 then [0]else if m.bk/4%4=2 then [1]else [0,1]
def sT(l:List Nat):PV:=.aq (l.map λi=>.str (m.nm i))
def res:PV:=if m.bk%4=0 then .bM else if m.bk%4=3 then enc m.s2 else .aq [.str (hw m.b5),enc m.t5,m.sT m.so1]
def z:Option Rk:=if m.bk%4=0 then none else if m.bk%4=3 then some (m.nm 2,.ow m.s2)else some (m.nm 5,m.d5)
def hd:List Rk:=[(m.nm 0,m.d4),(m.nm 1,m.d5)].take (m.pl/2).toNat++(m.nm 2,.ow m.s1)::[(m.nm 0,m.d4),(m.nm 1,m.d5)].drop (m.pl/2).toNat
def fn(j:Nat):PV:=.str (m.nm (10+j))
def cs:Cs:=⟨.ow m.s1,m.d4,m.d5,m.z.map (·.2),m.pl⟩
def rows:List PV:=m.L.map (cg m.fn)
def F1:PV:=DC (m.fn 1) m.res (.aq m.rows) m.P m.LT
def F0:PV:=.aq [m.fn 0,.aq [],.bM,.aq [],.aq [.aq [.str "give",.str ""]]]
def F2:PV:=.aq [m.fn 2,.aq (m.hd.map bC),.aq [.str (hw m.b4),enc m.t4,m.sT m.so2],.aq [],.aq [.aq [.str "give",.str (m.nm 0)]]]
def prog:PV:=.aq [m.F0,m.F1,m.F2]
end Md
structure cY (m:Md) (most:Nat):Prop where
 f1:cX m.s1
 f2:cX m.s2
 f3:cX m.s3
 f4:cX m.t4
 f5:cX m.t5
 f6:fq m.d6=true/\cX (bQ m.d6)
 f7:fq m.d7=true/\cX (bQ m.d7)
 pl:0<=m.pl/\m.pl<6
 rows:∃L,m.L=L++[.jA m.z]/\L.length<=most
 ok:∀r∈m.L,vb m.cs m.ks m.L.length r
theorem Gf(C:Int):∀l:List (Fin 26),l.Nodup->(l.map λi=>iD C i.1).Nodup
 | [],_=>mO
 | i::l,h=>by
  rw[iX]at h;rw[aO,iX];refine⟨λa=>?_,Gf C l h.2⟩
  obtain⟨j,b,e⟩:=aE.mp a;have:=Ss j.2 i.2 e;exact h.1 (by rw[<-Fin.ext this];exact b)
section
variable {m:Md}
theorem qp:m.ks.length=10:=by
 unfold Md.ks Md.P;split<;>rfl
theorem UA{q:Rk}(h:q∈m.P):q=(m.nm 9,.ow m.s1)\/q=(m.nm 8,m.d4):=by
 unfold Md.P at h;split at h
 all_goals simp only[aU,eE,e9]at h
 ·exact h
 ·exact h.symm
theorem UB{q:Rk}(h:q∈m.LT):q=(m.nm 0,.ow .num)\/q=(m.nm 1,.ow m.s1)\/q=(m.nm 2,.ow m.s2)\/q=(m.nm 3,.ow m.s3)\/q=(m.nm 4,m.d4)\/q=(m.nm 5,m.d5)\/q=(m.nm 6,m.d6)\/q=(m.nm 7,m.d7):=by
 unfold Md.LT at h;simpa only[aU,eE,e9]using h
theorem xK:(m.ks.map (·.1)).Nodup:=by
 unfold Md.ks Md.P;split
 ·exact Gf m.C [9,8,0,1,2,3,4,5,6,7] (by decide)
 ·exact Gf m.C [8,9,0,1,2,3,4,5,6,7] (by decide)
theorem UC{q:Rk}(h:q∈m.ks):∃i,i<10/\q.1=m.nm i:=by
 rcases bI.mp h with h | h
 ·rcases UA h with rfl | rfl
  ·exact⟨9,by decide,rfl⟩
  ·exact⟨8,by decide,rfl⟩
 ·rcases UB h with rfl | rfl | rfl | rfl | rfl | rfl | rfl | rfl
  ·exact⟨0,by decide,rfl⟩
  ·exact⟨1,by decide,rfl⟩
  ·exact⟨2,by decide,rfl⟩
  ·exact⟨3,by decide,rfl⟩
  ·exact⟨4,by decide,rfl⟩
  ·exact⟨5,by decide,rfl⟩
  ·exact⟨6,by decide,rfl⟩
  ·exact⟨7,by decide,rfl⟩
theorem UD(a:cX m.s1)(c:cX m.s2)(d:cX m.s3)(b:cX m.t4)(f:cX m.t5)(g:cX (bQ m.d6))(j:cX (bQ m.d7)):mx m.ks:=by
 refine⟨xK,λq h=>?_,by rw[qp];decide,λq h=>?_⟩
 ·rcases bI.mp h with h | h
  ·rcases UA h with rfl | rfl
   ·exact a
   ·exact b
  ·rcases UB h with rfl | rfl | rfl | rfl | rfl | rfl | rfl | rfl
   ·exact N0
   ·exact a
   ·exact c
   ·exact d
   ·exact b
   ·exact f
   ·exact g
   ·exact j
 ·obtain⟨i,_,e⟩:=UC h;rw[e];exact Ga m.C i
theorem cY.ks{a:Nat}(h:cY m a):mx m.ks:=UD h.f1 h.f2 h.f3 h.f4 h.f5 h.f6.2 h.f7.2
theorem qS(j:Nat):noRef (m.fn j)=true:=rfl
theorem UG:∀r,m.z=some r->r∈m.ks:=λr h=>by
 unfold Md.z at h;have a:((m.nm 2,.ow m.s2):Rk)∈m.ks:=dN _ (by simp[Md.LT])
 have b:((m.nm 5,m.d5):Rk)∈m.ks:=dN _ (by simp[Md.LT])
 split at h
 ·cases h
 ·split at h
  ·cases h;exact a
  ·cases h;exact b
end
def fk(ks:List Rk)(d:Kn):List Rk:=ks.filter λq=>eqT (Og q.2) (Og d)
theorem HW{ks:List Rk}{r:Rk}(h:r∈ks):(∀q∈fk ks r.2,q∈ks/\q.2=r.2)/\0<(fk ks r.2).length:=⟨λq a=>⟨(cU.mp a).1,Ys _ _ (cU.mp a).2⟩,j6 (cU.mpr ⟨h,kZ _⟩)⟩
theorem toT_K(h:List aw){d:Kn}(a:Ag (bQ d)):toT h gi (encK d)=some (Og d):=by
 cases d with
 | ow s=>exact toT_enc h s gi (by have:=a.2;simp only[bQ]at this;show _<1000;lia)
 | ho b s =>
  have e1:=toT_enc h s 999 (by have:=a.2;simp only[bQ]at this;show _<999;lia)
  show((dj (toT h 999) [.str (hw b),enc s]).bind (L7 .aq))=_;simp only[dj,e1];rfl
theorem acs(h:List aw){d e:Kn}(hd:Ag (bQ d))(he:Ag (bQ e)):jB h (encK d) (encK e)=some (.bl (eqT (Og d) (Og e))):=by
 show((toT h gi (encK d)).bind λx=>(toT h gi (encK e)).map λy=>eqT x y).map PV.bl=_
 rw[toT_K h hd,toT_K h he];rfl
theorem se{ks:List Rk}(K:mx ks){s:cL}{LL:PV}(c:Ev (rd 8) s (KL ks) s)(d:bX [none,none,none,some 4] s.ρ=[none,none,none,some LL]){j:Int}{a:Rk}(e:a∈ks)(f:∀h,bO h LL (.int j)=some (bC a)):Ev (dH false [none,none,none,some 4] (jr (rd 8)) (oo Qd (toB (op2 jB (rd 2) (op2 bO (op2 bO (rd 3) (bg (.int j))) (kI 1)))) (rd 1))) s (.lst ((fk ks a.2).map iE)) s:=by
 have k:=K.few;refine Yu (sV c rfl) (by lia) λq i=>?_
 rw[d];have g:Ek (toB (op2 jB (rd 2) (op2 bO (op2 bO (rd 3) (bg (.int j))) (kI 1)))) ⟨[none,some (.str q.1),some (encK q.2),some LL],s.h⟩ (eqT (Og q.2) (Og a.2)):=bT (b2 rfl (b2 (b2 rfl rfl (f _)) rfl rfl) (acs _ (K.ok q i) (K.ok a e)));cases b:eqT (Og q.2) (Og a.2)with
 | true=>rw[b]at g;exact XX rfl g rfl
 | false=>rw[b]at g;exact XY rfl g
theorem Kh(a:List Int)(n:Nat):∃cs:List Int,km (a.map PV.int) (some 8) (some (8+(n:Int)))=cs.map .int/\cs.length<=n:=by
 have e1:=HT.yJ (a.map PV.int).length 0 8;have b:=HT.yJ (a.map PV.int).length (a.map PV.int).length (8+n);unfold km;rw[show(some 8:Option Int)=some ((8:Nat):Int)from rfl,show(some (8+(n:Int)):Option Int)=some ((8+n:Nat):Int) by rw[Int.natCast_add];rfl,e1,b,<-List.map_drop,<-yw]
 exact⟨_,rfl,by rw[iW];lia⟩
theorem HX{fn:Nat->PV}{R:Ro->Prop}{bd:PV->List aw->Option (Option PV×List aw)}{h:List aw}:∀cs:List Int,(∀c∈cs,∃r,bd (.int c) h=some (some (cg fn r),h)/\R r)->∃L:List Ro,fL bd (cs.map PV.int) h=some (L.map (cg fn),h)/\(∀r∈L,R r)/\L.length=cs.length
 | [],_=>⟨[],rfl,(λ_ z=>nomatch z),rfl⟩
 | c::cs,H=>by
  obtain⟨r,b,d⟩:=H c aM;obtain⟨L,e,f,g⟩:=HX cs λc hc=>H c (aK _ hc)
  refine⟨r::L,?_,λq a=>?_,by simp[g]⟩
  ·show(bd (.int c) h).bind _=_;rw[b];show(fL bd (cs.map PV.int) h).map _=_;rw[e];rfl
  ·rcases aU.mp a with rfl | a
   ·exact d
   ·exact f q a
theorem cN'{link:List (Option Nat)}{fi:Gx AM}{bd:Bd}{s s1:cL}{ps a:List PV}(b:Ev fi s (.sq ps) s1)(c:ps.length<=4000000)(d:fL (bd (bX link s1.ρ)) ps s1.h=some (a,s1.h)):Ev (dH false link fi bd) s (.lst a) s1:=eB b (by
 show(if ps.length<=gu then fL _ ps s1.h else none).bind _=_
 rw[if_pos (show ps.length<=gu from c),d]
 rfl)
theorem HY:∀l:List Str,ai (l.map PV.str)=true
 | []=>rfl
 | _::l=>by rw[aO];simp[ai,noRef,HY l]
theorem Av:∀l:List PV,(∀p∈l,noRef p=true)->ai l=true
 | [],_=>rfl
 | p::l,h=>by simp[ai,h p aM,Av l λq a=>h q (aK _ a)]
def pS(l:List (Option PV))(h:List aw):cL:=⟨(l.reverse++List.replicate 24 none).take 24,h⟩
theorem aQ{b:Gx PV}{g:Gx dM}{P:PV->Prop}{l:List (Option PV)}{h h':List aw}{p q:PV}{s1:cL}{i:Nat}(a:Ev b (pS l h) p s1)(c:p=q)(d:s1=pS l h')(ht:aW i q (pS l h')=some (pS (some q::l) h')) (k:Rt P (g (pS (some q::l) h'))):Rt P (eS (di b (aW i)) g (pS l h)):=by
 subst c d;exact xS (aS a ht) k
theorem aP{b:Gx PV}{g:Gx dM}{P:PV->Prop}{l:List (Option PV)}{h:List aw}{p:PV}{i:Nat}(a:Ek b (pS l h) p)(ht:aW i p (pS l h)=some (pS (some p::l) h)) (k:Rt P (g (pS (some p::l) h))):Rt P (eS (di b (aW i)) g (pS l h)):=xS (aS a ht) k
theorem xH{f g:Gx dM}{P:PV->Prop}{l:List (Option PV)}{h h':List aw}(a:Ev f (pS l h) .nx (pS l h'))(k:Rt P (g (pS l h'))):Rt P (eS f g (pS l h)):=xS a k
theorem Ki(k:Nat)(hk:3<=k)(g:List Int)(f:Nat)(ahW:f<=31){W:List Str}(hW:0<W.length):∃m,Gives (run txt (k+4) "_law_program" [vK g,.int (f:Int),.lst (W.map .str)] []) (Md.prog m)/\cY m f:=by
 obtain⟨S,hS⟩:∃S,S=vK g:=⟨_,rfl⟩
 have kU:Gives (run txt (k+3) "_law_cell_at" [S,.int 0] []) (.int (cell g 0)):=by rw[hS];exact NV (k+2) g 0
 obtain⟨C,hC⟩:∃C,C=cell g 0%10^12:=⟨_,rfl⟩
 have hn:=Su (k+2) C 13 (by decide)
 obtain⟨d4,d5,d6,d7,Y,i4,i5,i6,i7⟩:=YB (k+1) (by lia) C g
 obtain⟨back,acu⟩:∃back,back=F6 (cell g 0) 3:=⟨_,rfl⟩
 have hb:=lM (k+2) (cell g 0) (i:=3) (by decide)
 rw[<-acu]at hb;obtain⟨b4,t4,e4⟩:∃b4 t4,d4=.ho b4 t4:=by
  cases d4 with
  | ow s=>cases i4.1
  | ho b s=>exact⟨b,s,rfl⟩
 obtain⟨b5,t5,e5⟩:∃b5 t5,d5=.ho b5 t5:=by
  cases d5 with
  | ow s=>cases i5.1
  | ho b s=>exact⟨b,s,rfl⟩
 subst e4 e5;obtain⟨s1,q1⟩:∃s,s=jf (mC g 0):=⟨_,rfl⟩
 obtain⟨s2,q2⟩:∃s,s=jf (mC g 1):=⟨_,rfl⟩
 obtain⟨s3,q3⟩:∃s,s=jf (mC g 2):=⟨_,rfl⟩
 have f1:=lN (mC g 0);have f2:=lN (mC g 1);have f3:=lN (mC g 2);rw[<-q1]at f1;rw[<-q2]at f2;rw[<-q3]at f3;unfold ltL at Y;rw[<-q1,<-q2,<-q3]at Y;obtain⟨d,E⟩:∃m:Md,m=⟨C,s1,s2,s3,b4,t4,b5,t5,d6,d7,back/1024%6,back,[]⟩:=⟨_,rfl⟩
 have hp6:0<=d.pl/\d.pl<6:=by rw[E];show 0<=back/1024%6/\back/1024%6<6;lia
 have K:mx d.ks:=by rw[E];exact UD f1 f2 f3 i4.2 i5.2 i6.2 i7.2
 have fm:cX d.s1/\cX d.s2/\cX d.s3/\cX d.t4/\cX d.t5/\(fq d.d6=true/\cX (bQ d.d6))/\(fq d.d7=true/\cX (bQ d.d7)):=by rw[E];exact⟨f1,f2,f3,i4.2,i5.2,i6,i7⟩
 have Y:Gives (run txt (k+1+2) "_law_lets" [vK g,NM C] []) (.lst (d.LT.map bC)):=by rw[E];exact Y
 have B:d.bk=back:=by rw[E]
 have nJ:d.pl=back/1024%6:=by rw[E]
 have hCm:d.C=C:=by rw[E]
 clear E;have t:∀q∈d.LT,q∈d.ks:=λq hq=>dN _ hq
 have M0:((d.nm 0,Kn.ow .num):Rk)∈d.ks:=t _ (by simp[Md.LT])
 have M1:((d.nm 1,Kn.ow d.s1):Rk)∈d.ks:=t _ (by simp[Md.LT])
 have M2:((d.nm 2,Kn.ow d.s2):Rk)∈d.ks:=t _ (by simp[Md.LT])
 have M4:((d.nm 4,d.d4):Rk)∈d.ks:=t _ (by simp[Md.LT])
 have M5:((d.nm 5,d.d5):Rk)∈d.ks:=t _ (by simp[Md.LT])
 obtain⟨LL,H⟩:∃LL,LL=PV.lst (d.LT.map bC):=⟨_,rfl⟩
 have l1:∀h,bO h LL (.int 1)=some (bC (d.nm 1,.ow d.s1)):=λ_=>by rw[H];rfl
 have l2:∀h,bO h LL (.int 2)=some (bC (d.nm 2,.ow d.s2)):=λ_=>by rw[H];rfl
 have l4:∀h,bO h LL (.int 4)=some (bC (d.nm 4,d.d4)):=λ_=>by rw[H];rfl
 have l5:∀h,bO h LL (.int 5)=some (bC (d.nm 5,d.d5)):=λ_=>by rw[H];rfl
 obtain⟨e,O6⟩:∃e,e=NM C:=⟨_,rfl⟩
 have D:∀q:Nat,q<13->∀h,bO h e (.int (q:Int))=some (.str (d.nm q)):=λq hq h=>by
  rw[O6];show _=some (PV.str (iD d.C q));rw[hCm];exact Ol C hq h
 have n0:∀h,bO h e (.int 0)=some (.str (d.nm 0)):=D 0 (by decide)
 have n1:∀h,bO h e (.int 1)=some (.str (d.nm 1)):=D 1 (by decide)
 have n2:∀h,bO h e (.int 2)=some (.str (d.nm 2)):=D 2 (by decide)
 have n5:∀h,bO h e (.int 5)=some (.str (d.nm 5)):=D 5 (by decide)
 have n8:∀h,bO h e (.int 8)=some (.str (d.nm 8)):=D 8 (by decide)
 have n9:∀h,bO h e (.int 9)=some (.str (d.nm 9)):=D 9 (by decide)
 have n10:∀h,bO h e (.int 10)=some (d.fn 0):=D 10 (by decide)
 have n11:∀h,bO h e (.int 11)=some (d.fn 1):=D 11 (by decide)
 have n12:∀h,bO h e (.int 12)=some (d.fn 2):=D 12 (by decide)
 have agk:∀h,IZ h (some 10) none e=some (.lst [d.fn 0,d.fn 1,d.fn 2]):=λh=>by
  rw[O6];show some (PV.lst (km _ (some 10) none))=some (.lst [.str (iD d.C 10),.str (iD d.C 11),.str (iD d.C 12)]);rw[hCm];rfl
 obtain⟨cs,P5,hcl⟩:=Kh g f;have agl:∀h,IZ h (some 8) (some (8+(f:Int))) S=some (.lst (cs.map .int)):=λh=>by
  rw[hS];show some (PV.lst (km (g.map .int) (some 8) (some (8+(f:Int)))))=_;rw[P5]
 have rs:∀h,bO h (.lst [.bM,.aq [.str (hw d.b5),enc d.t5,.aq []],.aq [.str (hw d.b5),enc d.t5,.aq [.str (d.nm 8)]],enc d.s2]) (.int (back%4))=some d.res:=λ_=>by
  unfold Md.res Md.so1;rw[B];rcases sd back with h | h | h | h<;>rw[h]<;>rfl
 have rz:∀h,bO h (.lst [.str "",.str (d.nm 5),.str (d.nm 5),.str (d.nm 2)]) (.int (back%4))=some (KA d.z):=λ_=>by
  unfold Md.z;rw[B];rcases sd back with h | h | h | h<;>rw[h]<;>rfl
 obtain⟨I,hBK,hB1,rJ⟩:∃I:List (Option Rk),(∀h,bO h (.lst [.lst [.str ""],.lst ((fk d.ks d.d5).map iE),.lst ((fk d.ks d.d5).map iE),.lst ((fk d.ks (.ow d.s2)).map iE)]) (.int (back%4))=some (.lst (I.map KA)))/\(∀o∈I,(∀r,o=some r->r∈d.ks)/\o.map (·.2)=d.z.map (·.2))/\0<I.length:=by
  have Z:∀{r:Rk},r∈d.ks->d.z.map (·.2)=some r.2->(∀o∈(fk d.ks r.2).map some,(∀q,o=some q->q∈d.ks)/\o.map (·.2)=d.z.map (·.2))/\0<((fk d.ks r.2).map some).length:=λ{r} hr hz=>by
   obtain⟨g1,g2⟩:=HW hr;refine⟨λo ho=>?_,by rw[ao];exact g2⟩
   obtain⟨q',vq,rfl⟩:=aE.mp ho;exact⟨λq hq=>by cases hq;exact(g1 _ vq).1,by rw[hz];show some q'.2=_;rw[(g1 _ vq).2]⟩
  have mm:∀l:List Rk,(l.map some).map KA=l.map iE:=λl=>by rw[cy];rfl
  unfold Md.z at Z ⊢;rw[B]at Z ⊢;rcases sd back with h | h | h | h<;>rw[h]at Z ⊢
  ·refine⟨[none],λ_=>rfl,λo ho=>?_,by simp⟩
   rw[aV]at ho;subst ho;exact⟨(λ_ z=>nomatch z),rfl⟩
  ·exact⟨(fk d.ks d.d5).map some,λ_=>by rw[mm];rfl,Z M5 rfl⟩
  ·exact⟨(fk d.ks d.d5).map some,λ_=>by rw[mm];rfl,Z M5 rfl⟩
  ·exact⟨(fk d.ks (.ow d.s2)).map some,λ_=>by rw[mm];rfl,Z M2 rfl⟩
 have CO:Yw d.cs d.ks (fk d.ks d.d4) (fk d.ks d.d5) (fk d.ks (.ow d.s1)) I:=⟨HW M4,HW M5,HW M1,hB1,rJ⟩;have v20:∀h,bO h (.lst [.aq [],.aq [.str (d.nm 0)],.aq [.str (d.nm 1)],.aq [.str (d.nm 0),.str (d.nm 1)]]) (.int (back/4%4))=some (d.sT d.so2):=λ_=>by
  unfold Md.so2;rw[B];rcases sd (back/4)with h | h | h | h<;>rw[h]<;>rfl
 have agm:=Sx (k+1) (by lia) d.ks K.ok (by rw[qp];decide)
 have agn:=J8 (k+2) K M0 (back/16%64);obtain⟨u,HZ⟩:∃u,u=PV.aq [.str "give",KA d.z]:=⟨_,rfl⟩
 have hla:∀M,we d.fn d.cs d.ks M u:=λM=>⟨.jA d.z,HZ,UG⟩
 have J:noRef u=true:=by rw[HZ];rfl
 have YD:=λc:Int=>acm k hk K (M:=cs.length+1) (by lia) hW M0 ⟨_,M4,rfl⟩ (back/16%64) qS CO hp6 J (hla _) c
 obtain⟨md,Zl⟩:∃md,md=mdT W d.ks (d.nm 0) (back/16%64) (caT d.fn (fk d.ks d.d4) (fk d.ks d.d5) (fk d.ks (.ow d.s1)) I d.pl) u:=⟨_,rfl⟩
 have YD:∀c:Int,∃p,Gives (run txt (k+3) "_law_row" [.int c,.int ((cs.length+1:Nat):Int),md] []) p/\we d.fn d.cs d.ks (cs.length+1) p:=by rw[Zl];exact YD
 have nrm:noRef md=true:=by rw[Zl];simp[noRef,ai,HY,ve,HL _ (oZ K),N5 _ (Gb K M0 (back/16%64)).1,J,qS,gJ]
 have acw:∀hp:List aw,∃L:List Ro,fL (lU (aW 1) (bnd (ay (rd 1) (ay (op2 fj Q8 (kI 1)) Q6)) (bJ 0 3 (run txt (k+3) "_law_row"))) [none,none,some (.lst (cs.map .int)),some md]) (cs.map PV.int) hp=some (L.map (cg d.fn),hp)/\(∀r∈L,vb d.cs d.ks (cs.length+1) r)/\L.length=cs.length:=λhp=>by
  refine HX cs λc hc=>?_
  obtain⟨p,h1,r,h2,h3⟩:=YD c;refine⟨r,?_,h3⟩;have hl1:Ek (op2 fj Q8 (kI 1)) ⟨[none,some (.int c),some (.lst (cs.map .int)),some md],hp⟩ (.int ((cs.length+1:Nat):Int)):=by
   refine b2 (x:=.int (cs.length:Int)) (bV (cA rfl rfl) ?_) rfl rfl;show some (PV.int (((cs.map PV.int).length:Nat):Int))=_;rw[ao]
  rw[h2]at h1;exact e1 rfl (c7 (cA rfl (cA hl1 (cA rfl rfl))) rfl (by simp[ai,noRef,nrm]) h1)
 obtain⟨L,hL1,hL2,hL3⟩:=acw [⟨.lst,d.P.map bC⟩];have hLn:L.length<=f:=by lia
 obtain⟨m,hm⟩:∃m:Md,m={d with L:=L++[Ro.jA d.z]}:=⟨_,rfl⟩
 refine⟨m,?_,?_⟩
 rotate_left
 ·rw[hm];obtain⟨g1,g2,g3,g4,g5,g6,g7⟩:=fm;refine⟨g1,g2,g3,g4,g5,g6,g7,hp6,⟨L,rfl,hLn⟩,λr hr=>?_⟩
  show vb d.cs d.ks (L++[Ro.jA d.z]).length r;rw[aX,hL3];rcases bI.mp hr with h | h
  ·exact hL2 r h
  ·rw[aV]at h;subst h;exact UG
 have hR:m.rows=L.map (cg d.fn)++[u]:=by
  rw[hm,HZ];show(L++[Ro.jA d.z]).map (cg d.fn)=_;rw[cf];rfl
 have hF1:m.F1=DC (d.fn 1) d.res (.aq (L.map (cg d.fn)++[u])) d.P d.LT:=by
  rw[<-hR,hm];rfl
 have hF0:m.F0=d.F0:=by rw[hm];rfl
 have hF2:m.F2=d.F2:=by rw[hm];rfl
 unfold Md.prog;rw[hF0,hF1,hF2,Ac,<-hS];obtain⟨WW,hWW⟩:∃WW,WW=PV.lst (W.map .str):=⟨_,rfl⟩
 rw[<-hWW];obtain⟨x1,Y9⟩:∃x,x=PV.int (f:Int):=⟨_,rfl⟩
 rw[<-Y9];obtain⟨KS,N⟩:∃KS,KS=KL d.ks:=⟨_,rfl⟩
 obtain⟨Q,Zm⟩:∃Q,Q=d.P.map bC:=⟨_,rfl⟩
 obtain⟨w,R⟩:∃w,w=L.map (cg d.fn)++[u]:=⟨_,rfl⟩
 rw[<-R];obtain⟨v4,hv4⟩:∃v,v=PV.lst ((fk d.ks d.d4).map iE):=⟨_,rfl⟩
 obtain⟨v5,T⟩:∃v,v=PV.lst ((fk d.ks d.d5).map iE):=⟨_,rfl⟩
 obtain⟨v1,hv1⟩:∃v,v=PV.lst ((fk d.ks (.ow d.s1)).map iE):=⟨_,rfl⟩
 obtain⟨vB,hvB⟩:∃v,v=PV.lst (I.map KA):=⟨_,rfl⟩
 obtain⟨vS,X⟩:∃v,v=SL d.ks:=⟨_,rfl⟩
 obtain⟨vN,hvN⟩:∃v,v=PV.lst ((Ux d.ks (d.nm 0) (back/16%64)).map kx):=⟨_,rfl⟩
 obtain⟨vC,hvC⟩:∃v,v=PV.lst (cs.map .int):=⟨_,rfl⟩
 obtain⟨p9,h9⟩:∃v,v=d.res:=⟨_,rfl⟩
 obtain⟨w20,h20⟩:∃v,v=d.sT d.so2:=⟨_,rfl⟩
 rw[<-h9]at rs;rw[<-h20]at v20;rw[<-Zm]at hL1;have ZH:Gives (run txt (k+3) "_law_names" [.int (cell g 0%10^12),.int 13] []) e:=by rw[<-hC,O6];exact hn
 rw[<-hS,<-O6,<-H]at Y;have fd:∀h,gB h (.int (back/1024)) (.int 6)=some (.int d.pl):=λh=>by rw[nJ];exact da (by decide)
 have P2:Q.length=2:=by rw[Zm,ao];unfold Md.P;split<;>rfl
 have hLT:d.LT.length=8:=rfl;have nrR:ai w=true:=by
  rw[R];refine Av _ λp hp=>?_
  rcases bI.mp hp with h | h
  ·obtain⟨r,hr,rfl⟩:=aE.mp h;exact Oh qS r (hL2 r hr)
  ·rw[aV]at h;rw[h];exact J
 have nr9:noRef d.res=true:=by
  unfold Md.res;split
  ·rfl
  ·split
   ·exact dh _
   ·simp[noRef,ai,dh,Md.sT,gJ]
 have nrP:noRef (.aq [d.F0,DC (d.fn 1) d.res (.aq w) d.P d.LT,d.F2])=true:=by simp[noRef,ai,Md.F0,Md.F2,DC,dh,ve,nrR,nr9,Md.sT,gJ,qS]
 suffices h:Rt (λp=>p=.aq [d.F0,DC (d.fn 1) d.res (.aq w) d.P d.LT,d.F2]) (uQ (run txt (k+3)) ⟨gY 24 [S,x1,WW],[]⟩)from by
  obtain⟨p,a,b⟩:=Rt.run h;rw[<-b];exact a
 refine xS (aS (c7 (cA (b2 (c7 (cA rfl (cA rfl rfl)) rfl rfl kU) (b2 rfl rfl (acq _)) (da (by decide))) (cA rfl rfl)) rfl rfl ZH) rfl) ?_
 refine xS (aS (c7 (cA rfl (cA rfl rfl)) rfl rfl Y) rfl) ?_;refine xS (aS (c7 (cA (c7 (cA rfl (cA rfl rfl)) rfl rfl kU) (cA rfl rfl)) rfl rfl hb) rfl) ?_;refine xS (aS (b2 (b2 rfl rfl (xB (by decide))) rfl (fd _)) rfl) ?_
 refine xS (aS (lC (cA (tU (cA (b2 (x:=e) rfl rfl (n8 _)) (cA (b2 (b2 (x:=LL) rfl rfl (l4 _)) rfl rfl) rfl)) (by simp)) (cA (tU (cA (b2 (x:=e) rfl rfl (n9 _)) (cA (b2 (b2 (x:=LL) rfl rfl (l1 _)) rfl rfl) rfl)) (by simp)) rfl)) (by simp)) rfl) ?_
 refine xS (s1:=pS [some (.ref 0),some (.int d.pl),some (.int back),some LL,some e,some WW,some x1,some S] [⟨.lst,Q⟩]) ?_ ?_
 ·have d2:Ek (toB (op2 jB (op2 gB (rd 6) (kI 2)) (kI 1))) (pS [some (.ref 0),some (.int d.pl),some (.int back),some LL,some e,some WW,some x1,some S] [⟨.lst,[bC (d.nm 8,d.d4),bC (d.nm 9,.ow d.s1)]⟩]) (d.pl%2==1):=bT (b2 (b2 (x:=.int d.pl) rfl rfl (da (by decide))) rfl (qo _ _ _))
  rw[Zm];unfold Md.P;by_cases h:d.pl%2=1
  ·rw[show(d.pl%2==1)=true by rw[h];rfl]at d2
   rw[if_pos h];exact iT d2 rfl
  ·rw[show(d.pl%2==1)=false by rw[fV];exact h]at d2
   rw[if_neg h];exact iF d2 rfl
 refine aP (p:=KS) ?_ rfl ?_
 ·rw[N,H,Zm];show Ev _ _ (PV.lst (d.ks.map bC)) _;unfold Md.ks;rw[cf];refine b2 (x:=.ref 0) (y:=.lst (d.LT.map bC)) rfl rfl ?_;show sizeOk ((d.P.map bC).length+(d.LT.map bC).length) _=_;exact if_pos (show _<=4000000 by rw[<-Zm,P2,ao,hLT];decide)
 refine aP (p:=p9) (b2 (x:=.lst [.bM,.aq [.str (hw d.b5),enc d.t5,.aq []],.aq [.str (hw d.b5),enc d.t5,.aq [.str (d.nm 8)]],enc d.s2]) (lS (cA rfl (cA (b2 (y:=.aq [.aq []]) (b2 (x:=bC (d.nm 5,d.d5)) (z:=.aq [.str (hw d.b5),enc d.t5]) (b2 (x:=LL) rfl rfl (l5 _)) rfl rfl) rfl (aT (by simp))) (cA (b2 (y:=.aq [.aq [.str (d.nm 8)]]) (b2 (x:=bC (d.nm 5,d.d5)) (z:=.aq [.str (hw d.b5),enc d.t5]) (b2 (x:=LL) rfl rfl (l5 _)) rfl rfl) (tU (cA (tU (cA (b2 (x:=e) rfl rfl (n8 _)) rfl) (by simp)) rfl) (by simp)) (aT (by simp))) (cA (b2 (b2 (x:=LL) rfl rfl (l2 _)) rfl rfl) rfl)))) (by simp)) (b2 (x:=.int back) rfl rfl (da (by decide))) (rs _)) rfl ?_
 refine aP (p:=u) ?_ rfl ?_
 ·rw[HZ];exact tU (cA rfl (cA (b2 (x:=.lst [.str "",.str (d.nm 5),.str (d.nm 5),.str (d.nm 2)]) (lS (cA rfl (cA (b2 (x:=e) rfl rfl (n5 _)) (cA (b2 (x:=e) rfl rfl (n5 _)) (cA (b2 (x:=e) rfl rfl (n2 _)) rfl)))) (by simp)) (b2 (x:=.int back) rfl rfl (da (by decide))) (rz _)) rfl)) (by simp)
 refine aP (p:=v4) ?_ rfl ?_
 ·rw[hv4,N];exact se K (LL:=LL) rfl rfl M4 l4
 refine aP (p:=v5) ?_ rfl ?_
 ·rw[T,N];exact se K (LL:=LL) rfl rfl M5 l5
 refine aP (p:=v1) ?_ rfl ?_
 ·rw[hv1,N];exact se K (LL:=LL) rfl rfl M1 l1
 refine aP (p:=vB) ?_ rfl ?_
 ·rw[hvB,T,N];exact b2 (x:=.lst [.lst [.str ""],.lst ((fk d.ks d.d5).map iE),.lst ((fk d.ks d.d5).map iE),.lst ((fk d.ks (.ow d.s2)).map iE)]) (lS (cA rfl (cA rfl (cA rfl (cA (se K (LL:=LL) rfl rfl M2 l2) rfl)))) (by simp)) (b2 (x:=.int back) rfl rfl (da (by decide))) (hBK _)
 refine aP (p:=vS) ?_ rfl ?_
 ·rw[X,N];exact c7 (as:=[KL d.ks]) (cA rfl rfl) rfl (by simp[ai,noRef,ve]) agm
 refine aP (p:=vN) ?_ rfl ?_
 ·rw[hvN,X];exact c7 (as:=[SL d.ks,.str (d.nm 0),.int (back/16%64)]) (cA rfl (cA (b2 (x:=e) rfl rfl (n0 _)) (cA (b2 (b2 (x:=.int back) rfl rfl (xB (by decide))) rfl (da (by decide))) rfl))) rfl (by simp[ai,noRef,HL _ (oZ K)]) agn
 refine aP (p:=md) ?_ rfl ?_
 ·rw[Zl];unfold mdT caT;rw[<-hWW,<-N,<-X,<-hvN,<-hv4,<-T,<-hv1,<-hvB];exact tU (cA rfl (cA rfl (cA rfl (cA rfl (cA (tU (cA (x:=.lst [d.fn 0,d.fn 1,d.fn 2]) (cE (p:=e) rfl rfl rfl (agk _)) (cA rfl (cA rfl (cA rfl (cA rfl (cA rfl rfl)))))) (by simp)) (cA rfl rfl)))))) (by simp)
 refine aP (p:=vC) ?_ rfl ?_
 ·rw[hvC,Y9];exact cE (p:=S) (h:=some (8+(f:Int))) rfl rfl (eB (b2 (x:=.int 8) (y:=.int (f:Int)) rfl rfl rfl) rfl) (agl _)
 refine aP (p:=(.lst w)) ?_ rfl ?_
 ·rw[R,hvC];exact b2 (x:=.lst (L.map (cg d.fn))) (y:=.lst [u]) (cN' (sV rfl rfl) (by rw[ao];lia) hL1) (lS (cA rfl rfl) (by simp)) (aL (by simp only[ao,aN,yp];lia))
 refine aP (p:=w20) (b2 (x:=.lst [.aq [],.aq [.str (d.nm 0)],.aq [.str (d.nm 1)],.aq [.str (d.nm 0),.str (d.nm 1)]]) (lS (cA rfl (cA (tU (cA (b2 (x:=e) rfl rfl (n0 _)) rfl) (by simp)) (cA (tU (cA (b2 (x:=e) rfl rfl (n1 _)) rfl) (by simp)) (cA (tU (cA (b2 (x:=e) rfl rfl (n0 _)) (cA (b2 (x:=e) rfl rfl (n1 _)) rfl)) (by simp)) rfl)))) (by simp)) (b2 (b2 (x:=.int back) rfl rfl (xB (by decide))) rfl (da (by decide))) (v20 _)) rfl ?_
 refine aQ (q:=.ref 1) (h':=[⟨.lst,Q⟩,⟨.lst,[bC (d.nm 0,d.d4),bC (d.nm 1,d.d5)]⟩]) (lC (ps:=[bC (d.nm 0,d.d4),bC (d.nm 1,d.d5)]) (cA (tU (cA (b2 (x:=e) rfl rfl (n0 _)) (cA (b2 (b2 (x:=LL) rfl rfl (l4 _)) rfl rfl) rfl)) (by simp)) (cA (tU (cA (b2 (x:=e) rfl rfl (n1 _)) (cA (b2 (b2 (x:=LL) rfl rfl (l5 _)) rfl rfl) rfl)) (by simp)) rfl)) (by simp)) rfl rfl rfl ?_
 refine xH (h':=[⟨.lst,Q⟩,⟨.lst,d.hd.map bC⟩]) ?_ ?_
 ·obtain⟨j,hj,hj2⟩:∃j:Nat,d.pl/2=(j:Int)/\j<=2:=⟨(d.pl/2).toNat,by lia,by lia⟩
  unfold Md.hd;rw[hj];refine dS (p:=.bM) (AO (n:=1) (as:=[.int (j:Int),bC (d.nm 2,.ow d.s1)]) rfl rfl (cA (b2 (x:=.int d.pl) rfl rfl (by rw[<-hj];exact xB (by decide))) (cA (tU (cA (b2 (x:=e) rfl rfl (n2 _)) (cA (b2 (b2 (x:=LL) rfl rfl (l1 _)) rfl rfl) rfl)) (by simp)) rfl)) ?_)
  have:j=0\/j=1\/j=2:=by lia
  rcases this with rfl | rfl | rfl<;>rfl
 refine aP (p:=d.F2) (tU (cA (b2 (x:=e) rfl rfl (n12 _)) (cA (x:=.aq (d.hd.map bC)) (bV (as:=[.ref 1]) (cA rfl rfl) rfl) (cA (x:=.aq [.str (hw d.b4),enc d.t4,d.sT d.so2]) (b2 (x:=.aq [.str (hw d.b4),enc d.t4]) (y:=.aq [w20]) (b2 (x:=bC (d.nm 4,d.d4)) (b2 (x:=LL) rfl rfl (l4 _)) rfl rfl) (tU (cA rfl rfl) (by simp)) (by rw[h20];exact aT (by simp))) (cA rfl (cA (tU (cA (tU (cA rfl (cA (b2 (x:=e) rfl rfl (n0 _)) rfl)) (by simp)) rfl) (by simp)) rfl))))) (by simp)) rfl ?_
 refine aP (p:=(DC (d.fn 1) d.res (.aq w) d.P d.LT)) ?_ rfl ?_
 ·unfold DC;rw[<-Zm,<-h9];exact tU (cA (b2 (x:=e) rfl rfl (n11 _)) (cA (x:=.aq Q) (bV (as:=[.ref 0]) (cA rfl rfl) rfl) (cA rfl (cA (x:=.aq (d.LT.map bC)) (bV (as:=[LL]) (cA rfl rfl) (by rw[H];rfl)) (cA (x:=.aq w) (bV (as:=[.lst w]) (cA rfl rfl) rfl) rfl))))) (by simp)
 exact xR (tU (ps:=[d.F0,DC (d.fn 1) d.res (.aq w) d.P d.LT,d.F2]) (cA (tU (cA (b2 (x:=e) rfl rfl (n10 _)) (cA rfl (cA rfl (cA rfl (cA rfl rfl))))) (by simp)) (cA rfl (cA rfl rfl))) (by simp)) nrP rfl
def Md.A(m:Md):List (List cP):=m.L.map vc
def Md.as(m:Md):List (Nat×cP):=eA 0 m.A
noncomputable def wj(j:Nat):Ro->List Nat
 | .jA _=>[]
 | .go n=>[n]
 | .Ge _ _ n=>wa (j+1) n
 | _=>[j+1]
def Md.nx(m:Md)(j:Nat):List Nat:=match m.L[j]? with
 | some r=>wj j r
 | none=>[]
def Md.Aw(m:Md):List (List Nat):=r9 m.A m.nx
section
variable {m:Md} {most:Nat} (h:cY m most)
theorem Gg(H:List aw):bO H m.prog (.int 1)=some m.F1:=rfl
theorem sg(h:cY m most):ai m.rows=true:=Av _ λp hp=>by
 obtain⟨r,a,rfl⟩:=aE.mp hp;exact Oh qS r (h.ok r a)
theorem YF:noRef m.res=true:=by
 unfold Md.res;split
 ·rfl
 ·split
  ·exact dh _
  ·simp[noRef,ai,dh,Md.sT,gJ]
theorem H0(h:cY m most):noRef m.F1=true:=by simp[Md.F1,DC,noRef,ai,qS,YF,ve,sg h]
theorem acx:noRef m.F0=true:=rfl
theorem acy:noRef m.F2=true:=by simp[Md.F2,noRef,ai,qS,dh,ve,Md.sT,gJ]
theorem H9(h:cY m most):noRef m.prog=true:=by simp[Md.prog,noRef,ai,acx,H0 h,acy]
theorem acz(h:cY m most):uT m.F1 m.ks:=LC _ _ _ m.P m.LT (by have:=@qp m;unfold Md.ks at this;rw[aX]at this;lia) (xK)
theorem YG(h:cY m most){r:Ro}(a:r∈m.L):oY m.ks m.L.length (cg m.fn r) (vc r):=Yt h.ks _ qS r (h.ok r a)
theorem vf(h:cY m most):m.L.length<=most+1/\0<m.L.length:=by
 obtain⟨L,e,a⟩:=h.rows;rw[e];simp
 lia
theorem Ax(h:cY m most)(d:most<=31)(k:Nat)(hk:12<=k):Gives (run txt (k+1) "acts" [m.prog,.int 1] []) (.lst (m.as.map eN)):=by
 have e:m.rows=(m.L.map λr=>(cg m.fn r,vc r)).map (·.1):=by rw[cy];rfl
 have a:(m.L.map λr=>(cg m.fn r,vc r)).map (·.2)=m.A:=by rw[cy];rfl
 have f:=(vf h).1;have:=Yd k Gg (by rw[<-e];rfl) (H0 h) (λq b=>by
  obtain⟨r,c,rfl⟩:=aE.mp b;exact(YG h c).made m.F1 k (acz h) (H0 h) hk) (by rw[ao];lia)
 rw[a,oO]at this;exact this
theorem acA(h:cY m most):∀as∈m.A,as.length<=6:=λas a=>by
 obtain⟨r,b,rfl⟩:=aE.mp a;exact(YG h b).six
theorem Dg:∀(L:List (List cP)) (i:Nat),(∀as∈L,as.length<=6)->(eA i L).length<=6*L.length
 | [],_,_=>by simp[eA]
 | as::L,i,h=>by
  have b:=h as aM;have d:=Dg L (i+1) λa c=>h a (aK _ c)
  have:(dt as).length<=6:=by
   cases as with
   | nil=>simp[dt]
   | cons a r=>exact b
  rw[eA,aX,ao,aN]
  lia
theorem Ay(h:cY m most):m.as.length<=6*(most+1):=by
 have a:=Dg m.A 0 (acA h);have b:=(vf h).1;have c:m.A.length=m.L.length:=by unfold Md.A;rw[ao]
 unfold Md.as
 lia
def SO:Ro->Str
 | .put a _ _=>if a then "fill" else "put"
 | .set _ _ _ _=>"set"
 | .wc _ _=>"copy"
 | .nk _ _=>"move"
 | .drop _=>"drop"
 | .nu _ b _=>lw b
 | .call _ _ _=>"call"
 | .Ge _ _ _=>"if"
 | .go _=>"go"
 | .SF _=>"say"
 | .jA _=>"give"
theorem UI(fn:Nat->PV)(H:List aw)(r:Ro):bO H (cg fn r) (.int 0)=some (.str (SO r)):=by cases r<;>rfl
def O7:Ro->Nat
 | .jA _=>0
 | .go _=>1
 | .Ge _ _ _=>2
 | _=>3
theorem SQ(r:Ro):(SO r==Str.ofString "give")=(O7 r==0):=by
 cases r with
 | put a _ _=>cases a<;>kernel_rfl
 | nu _ b _=>cases b<;>kernel_rfl
 | _=>kernel_rfl
theorem acB(r:Ro):(SO r==Str.ofString "go")=(O7 r==1):=by
 cases r with
 | put a _ _=>cases a<;>kernel_rfl
 | nu _ b _=>cases b<;>kernel_rfl
 | _=>kernel_rfl
theorem acC(r:Ro):(SO r==Str.ofString "if")=(O7 r==2):=by
 cases r with
 | put a _ _=>cases a<;>kernel_rfl
 | nu _ b _=>cases b<;>kernel_rfl
 | _=>kernel_rfl
theorem Gh{j:Nat}{r:Ro}(a:m.L[j]?=some r)(H:List aw):bO H (.aq m.rows) (.int (j:Int))=some (cg m.fn r):=atI_nat (by unfold Md.rows;rw[bP,a];rfl)
theorem Dh(h:cY m most){j:Nat}{r:Ro}(a:m.L[j]?=some r)(d:O7 r≠0):j+1<m.L.length:=by
 obtain⟨L,e,f⟩:=h.rows;have c:=(bW.mp a).1;by_cases b:j=L.length
 ·subst b;rw[e]at a;simp at a;subst a;exact absurd rfl d
 ·rw[e,aX]at c ⊢;simp at c ⊢
  lia
theorem Om(h:cY m most){j:Nat}{r:Ro}(c:m.L[j]?=some r):(wj j r).length<=2/\∀n∈wj j r,n<m.L.length:=by
 have ok:=h.ok r (dc c);have one:O7 r≠0->([j+1]:List Nat).length<=2/\∀n∈[j+1],n<m.L.length:=λd=>⟨by simp,λn e=>by rw[aV]at e;have:=Dh h c d;lia⟩
 cases r with
 | jA z=>exact⟨by simp[wj],λ_ z=>nomatch z⟩
 | go n=>exact⟨by simp[wj],λq b=>by simp only[wj,aV]at b;rw[b];exact ok⟩
 | Ge a i n =>
  have:=Dh h c (by simp[O7])
  have f:n<m.L.length:=ok.2;refine⟨?_,λq b=>?_⟩
  ·show(wa (j+1) n).length<=2;unfold wa;split
   ·simp
   ·split<;>simp
  ·have b:q∈wa (j+1) n:=b;unfold wa at b;split at b
   ·simp at b;lia
   ·split at b<;>simp at b<;>lia
 | _=>exact one (by simp[O7])
theorem YH(h:cY m most)(C:most<=31)(k:Nat){j:Nat}{r:Ro}(g:m.L[j]?=some r):Gives (run txt (k+1) "row_nexts" [.aq m.rows,.int (j:Int)] []) (nT (wj j r)):=by
 have D:=(bW.mp g).1;have E:=(vf h).1;obtain⟨p,hp⟩:∃p,p=cg m.fn r:=⟨_,rfl⟩
 obtain⟨R,o⟩:∃R,R=PV.aq m.rows:=⟨_,rfl⟩
 rw[vP,<-o];have t:∀H,bO H R (.int (j:Int))=some p:=λH=>by rw[o,hp];exact Gh g H
 have d:Ev (di Qe (aW 2)) (S0 [some R,some (.int (j:Int)),none]) .nx (S0 [some R,some (.int (j:Int)),some p]):=aS (b2 rfl rfl (t _)) rfl;have w:∀v:Str,Ek (toB (op2 jB (op2 bO (rd 2) (kI 0)) (bg (.str v)))) (S0 [some R,some (.int (j:Int)),some p]) (SO r==v):=λv=>bT (b2 (b2 rfl rfl (by rw[hp];exact UI _ _ r)) rfl (fI _ _ _))
 have b:=w "give";have c:=w "go";have f:=w "if"
 rw[SQ]at b;rw[acB]at c;rw[acC]at f;have q:Ek (op2 fj (rd 1) (kI 1)) (S0 [some R,some (.int (j:Int)),some p]) (iN (j+1)):=b2 rfl rfl rfl;have nr:∀l,noRef (nT l)=true:=λl=>by simp[nT,noRef,jZ]
 have one:(O7 r==0)=false->(O7 r==1)=false->(O7 r==2)=false->Gives (er (qJ (run txt k)) 3 [R,.int (j:Int)] []) (nT [j+1]):=λu x y=>by
  rw[u]at b;rw[x]at c;rw[y]at f;exact gV (sq d (sq (iF b rfl) (sq (iF c rfl) (sq (iF f rfl) (rS (tU (cA q rfl) (by simp))))))) (nr _)
 have ok:=h.ok r (dc g);cases r with
 | jA z=>exact gV (sq d (nz (iT b (rS rfl)))) rfl
 | go n=>exact gV (sq d (sq (iF b rfl) (nz (iT c (rS (tU (ps:=[iN n]) (cA (b2 rfl rfl (by rw[hp];rfl)) rfl) (by simp))))))) (nr _)
 | Ge a i n =>
  have I:n<m.L.length:=ok.2;have B:ssO [] (.lst [iN (j+1),iN n])=some (.lst ((wa (j+1) n).map iN)):=by
   have e:ssO [] (.lst [iN (j+1),iN n])=(if(([((j+1:Nat):Int),(n:Int)]:List Int).length<=2/\([((j+1:Nat):Int),(n:Int)]:List Int).all (λn=>decide (0<=n/\n<64))=true)then some (PV.lst ((iM (qb (λi=>([((j+1:Nat):Int),(n:Int)]:List Int).getD i 0) 2)).map .int))else none):=rfl
   rw[e,if_pos ⟨by simp,by simp;lia⟩,NU,acb,cy]
   rfl
  exact gV (sq d (sq (iF b rfl) (sq (iF c rfl) (nz (iT f (rS (bV (cA (eB (lS (cA q (cA (b2 rfl rfl (by rw[hp];rfl)) rfl)) (by simp)) (show Option.map _ (ssO [] (.lst [iN (j+1),iN n]))=_ by rw[B];rfl)) rfl) rfl))))))) (nr _)
 | _=>exact one rfl rfl rfl
theorem SR(h:cY m most)(c:most<=31)(k:Nat):An (run txt (k+1)) (.aq m.rows) m.A.length m.nx:=λj b=>by
 have d:m.A.length=m.L.length:=by unfold Md.A;rw[ao]
 rw[d]at b ⊢;obtain⟨r,a⟩:∃r,m.L[j]?=some r:=⟨_,b6 b⟩
 have e:m.nx j=wj j r:=by unfold Md.nx;rw[a]
 rw[e];exact⟨YH h c k a,(Om h a).1,(Om h a).2⟩
theorem ly(h:cY m most)(i:most<=20)(k:Nat)(hk:12<=k):Gives (run txt (k+2) "nexts" [m.prog,.int 1] []) (.lst (m.Aw.map nT))/\Ye m.Aw m.as.length:=by
 have b:=Ax h (by lia) k hk
 unfold Md.as at b;rw[<-oO]at b;have d:=Ay h;obtain⟨e,f,g⟩:=Sq (k+1) rfl (by simp[noRef,sg h]) b (SR h (by lia) k) (by unfold Md.as at d;lia)
 refine⟨e,f,g,?_,by lia⟩
 obtain⟨a,c⟩:=uX m.A 0 0 (au _) (by unfold Md.A;rw[ao];have:=(vf h).2;lia)
 exact List.length_pos_of_mem c
structure lz (m:Md) (cs:List Nat):Prop where
 nd:cs.Nodup
 lt:∀n∈cs,n<m.as.length
 zero:0∈cs
 nx:∀n∈cs,∀l,m.Aw[n]?=some l->∀q∈l,q∈cs
theorem YI(h:cY m most)(y:most<=20):∃cs,(∀k,12<=k->Gives (run txt (k+3) "come_to" [m.prog,.int 1] []) (.lst (cs.map iN)))/\lz m cs:=by
 have N:=(ly h y 12 (au _)).2;obtain⟨v,d,J,r,B,C,Y,L,M⟩:=FX N;have u:(d.map λn:Nat=>(n:Int)).Nodup:=by
  refine List.Pairwise.map _ (λa b o z=>o ?_) B
  exact Int.ofNat.inj z
 have D:d.length<128:=by
  have:=jx d (List.range m.as.length) B λn g=>dD.mpr (C n g)
  rw[fW]at this;have:=N.few
  lia
 have Z:v.length=d.length:=by
  have:=dq List.length r
  rwa [ao,ao]at this
 obtain⟨cs,E,w⟩:∃cs:List Nat,iM (d.map λn:Nat=>(n:Int))=cs.map (λn:Nat=>(n:Int))/\∀n,n∈cs↔n∈d:=by
  have hp:=fH (d.map λn:Nat=>(n:Int))
  refine⟨(iM (d.map λn:Nat=>(n:Int))).map Int.toNat,?_,λn=>?_⟩
  ·rw[cy];have:∀l:List Int,(∀i∈l,0<=i)->l=l.map ((λn:Nat=>(n:Int)) ∘ Int.toNat):=λl=>by
    induction l with
    | nil=>exact λ_=>rfl
    | cons i l ih =>
     intro H;rw[aO,<-ih λj Q=>H j (aK _ Q)]
     have:=H i aM;show i::l=(i.toNat:Int)::l;rw[kG this]
   refine this _ λi p=>?_
   obtain⟨n,_,rfl⟩:=aE.mp (hp.mem_iff.mp p)
   lia
  ·constructor
   ·intro g;obtain⟨i,p,rfl⟩:=aE.mp g;obtain⟨q,x,rfl⟩:=aE.mp (hp.mem_iff.mp p);exact x
   ·intro g;exact aE.mpr ⟨(n:Int),hp.mem_iff.mpr (aE.mpr ⟨n,g,rfl⟩),rfl⟩
 refine⟨cs,?_,⟨?_,λn g=>C n ((w n).mp g),(w 0).mpr M,λn g l D q x=>?_⟩⟩
 ·intro k hk;have g:=(ly h y k hk).1;rw[Cy];have hc:Ek (dH false [none,none] (jr (bnd (ay (bnd Qb (bJ 0 2 (run txt (k+2) "nexts"))) (bg [])) (bJ 0 1 (run txt (k+2) "arrivals")))) (lU (aW 1) Qw)) (S0 [some m.prog,some (.int 1)]) (.lst (d.map iN)):=by
   have e:d.map iN=v.map λt=>((t.1.map qd).getD 0 .bM):=by
    have:=dq (List.map λks:List bE=>(ks.map qd).getD 0 .bM) r
    rw[cy,cy]at this;exact this.symm
   rw[e];refine cM (sV (c7 (cA (c7 (cA rfl (cA rfl rfl)) rfl rfl g) rfl) rfl rfl (J k)) rfl) (by lia) λt ht=>?_
   have:t.1∈d.map kN:=by rw[<-r];exact aE.mpr ⟨t,ht,rfl⟩
   obtain⟨n,_,R⟩:=aE.mp this;obtain⟨f,c⟩:=t;subst R;exact e1 rfl (b2 rfl rfl rfl)
  refine gV (rS (bV (cA hc rfl) ?_)) (by simp[noRef,jZ])
  have g:l9 (d.map iN)=some (d.map λn:Nat=>(n:Int)):=by
   have:=qk (d.map λn:Nat=>(n:Int))
   rwa [cy]at this
  show(l9 (d.map iN)).bind _=_;rw[g,dO,if_pos (Or.inr ⟨by rw[ao];lia,u⟩),E,cy]
  rfl
 ·have:(cs.map λn:Nat=>(n:Int)).Nodup:=by rw[<-E];exact(fH _).nodup_iff.mpr u
  exact List.Pairwise.imp (λ{a b} o z=>o (by rw[z])) (List.pairwise_map.mp this)
 ·rw[w]at g ⊢;have:kN n∈v.map (·.1):=by rw[r];exact aE.mpr ⟨n,g,rfl⟩
  obtain⟨t,ht,e⟩:=aE.mp this;obtain⟨i,p⟩:=List.getElem?_of_mem ht;obtain⟨f,c⟩:=t;subst e;obtain⟨fs,I,T⟩:=L i _ c (bW.mp p).1 p;rw[HE D]at I;cases I;have:=T (kN q) (aE.mpr ⟨q,x,rfl⟩);rw[r]at this;obtain⟨q',X,e⟩:=aE.mp this;rw[<-NO e];exact X
end
section
variable {fa fb:Gx PV} {s s1 s2:cL} {x y:PV} {r:Option (Rs PV×cL)}
theorem anT(h:Ev fa s x s1)(ht:qZ s1.h x=some true)(b:fb s1=r):IY fa fb s=r:=eB h (eB (a:=true) (by show(qZ s1.h x).map _=_;rw[ht];rfl) b)
theorem anF(h:Ev fa s x s1)(ht:qZ s1.h x=some false):Ev (IY fa fb) s x s1:=eB h (eB (by show(qZ s1.h x).map _=_;rw[ht];rfl) rfl)
theorem anB{a b:Bool}(h:Ev fa s (.bl a) s)(c:Ev fb s (.bl b) s):Ev (IY fa fb) s (.bl (a&&b)) s:=by
 cases a with
 | true=>exact anT h rfl c
 | false=>exact anF h rfl
theorem chB{g c:G2}{d:Gx PV}{x y z:PV}{a b:Bool}(e:Ev fa s x s)(f:Ev fb s y s)(h1:g s.h x y=some (.bl a))(hc:Ev d s z s)(i:c s.h y z=some (.bl b)):Ev (chain g c fa fb d) s (.bl (a&&b)) s:=by
 have e1:Ev (hp λh=>(g h x y).bind wK) s a s:=by show((g s.h x y).bind wK).map _=_;rw[h1];rfl
 cases a with
 | true =>
  refine eB e (eB f (eB e1 (eB hc ?_)));show(c s.h y z).map _=_;rw[i];rfl
 | false=>exact eB e (eB f (eB e1 rfl))
theorem nG{b:Bool}(h:Ev fa s (.bl b) s1):Ev (QN fa) s (.bl (!b)) s1:=eB (bT h) rfl
theorem orX{c d:Gx Bool}{a b:Bool}(h:Ev c s a s)(e:Ev d s b s):Ev (eH c (bg true) d) s (a || b) s:=by
 cases a with
 | true=>exact iT h rfl
 | false=>exact iF h e
theorem tB{b:Bool}(h:Ev fa s (.bl b) s1):Ev (iu fa) s b s1:=tR h rfl
end
section
variable {m:Md} {most:Nat}
theorem Di:∀(L:List (List cP)) (i:Nat) (q:Nat×cP),q∈eA i L->∃j as,q.1=i+j/\L[j]?=some as/\q.2∈dt as
 | [],_,_,h=>nomatch h
 | as::L,i,q,h=>by
  rw[eA,bI]at h;rcases h with h | h
  ·obtain⟨a,b,rfl⟩:=aE.mp h;exact⟨0,as,rfl,rfl,b⟩
  ·obtain⟨j,bs,e,c,d⟩:=Di L (i+1) q h;exact⟨j+1,bs,by lia,by simpa using c,d⟩
theorem Oo(h:cY m most){q:Nat×cP}(b:q∈m.as):wb (DD m.ks) 3 q.2:=by
 obtain⟨j,as,e,a,c⟩:=Di m.A 0 q b;unfold Md.A at a;rw[bP]at a;obtain⟨r,d,rfl⟩:=bt a;exact J9 (YG h (dc d)).ok q.2 c
theorem UJ{n:Nat}{q:Nat×cP}(a:m.as[n]?=some q)(H:List aw):bO H (.lst (m.as.map eN)) (.int (n:Int))=some (eN q):=atI_nat (by rw[bP,a];rfl)
theorem UK{n:Nat}{l:List Nat}(a:m.Aw[n]?=some l)(H:List aw):bO H (.lst (m.Aw.map nT)) (.int (n:Int))=some (nT l):=atI_nat (by rw[bP,a];rfl)
theorem Az(h:cY m most)(a:most<=20):m.Aw.length=m.as.length:=(ly h a 12 (au _)).2.len
theorem AA(h:cY m most)(a:most<=20){n:Nat}{l:List Nat}(b:m.Aw[n]?=some l):l.length<=2/\∀q∈l,q<m.as.length:=(ly h a 12 (au _)).2.ok l (dc b)
noncomputable def Oq(a:cP):List Int:=(List.range a.m.toNat).map λi=>a.f+(i:Nat)*1
theorem Kj(k:Nat){X:List Str}{Bd:Nat}(b:Bd<=500){q:Nat×cP}(ok:wb X Bd q.2):Gives (run txt (k+1) "touched" [eN q] []) (.lst ((Oq q.2).map .int)):=by
 rw[Cz];have a:=ok.f0;have c:=ok.m0;have d:=ok.few;refine gV (rS (eB (cA (b2 rfl rfl rfl) (cA (b2 (b2 rfl rfl rfl) (b2 rfl rfl rfl) rfl) rfl)) (eB (s1:=S0 [some (eN q)]) ?_ rfl))) (Ap _);show Option.map _ (if 0<=q.2.f/\q.2.f<=q.2.f+q.2.m/\q.2.f+q.2.m<=1000 then some (PyProof.Rows.rangeInts q.2.f 1 (q.2.f+q.2.m-q.2.f).toNat)else none)=_
 rw[if_pos ⟨a,by lia,by lia⟩,show q.2.f+q.2.m-q.2.f=q.2.m by lia]
 rfl
theorem SS{a:cP}{i:Int}(h:0<=a.m):i∈Oq a↔a.f<=i/\i<a.f+a.m:=by
 unfold Oq;rw[aE];constructor
 ·rintro⟨n,b,rfl⟩
  have:=dD.mp b
  lia
 ·rintro⟨c,d⟩
  exact⟨(i-a.f).toNat,dD.mpr (by lia),by lia⟩
noncomputable def tch(a:cP)(x:Str)(l:Int):Bool:=(a.n==x)&&(decide (a.f<=l)&&decide (l<a.f+a.m))
theorem Kk(k:Nat)(q:Nat×cP)(x:Str)(l:Int):Gives (run txt (k+1) "touches" [eN q,.str x,.int l] []) (.bl (tch q.2 x l)):=by
 rw[CB];exact gV (rS (anB (b2 (b2 rfl rfl rfl) rfl (fI _ _ _)) (chB (b2 rfl rfl rfl) rfl (le_int _ _ _) (b2 (b2 rfl rfl rfl) (b2 rfl rfl rfl) rfl) (lt_int _ _ _)))) rfl
def flE(a:cP)(x:Str)(l:Int):Bool:=(a.w==Str.ofString "fill")&&((!a.t)&&tch a x l)
theorem SU(k:Nat)(q:Nat×cP)(x:Str)(l:Int):Gives (run txt (k+2) "fills" [eN q,.str x,.int l] []) (.bl (flE q.2 x l)):=by
 rw[JR];exact gV (rS (anB (b2 (b2 rfl rfl rfl) rfl (fI _ _ _)) (anB (nG (b2 rfl rfl rfl)) (c7 (as:=[eN q,.str x,.int l]) (cA rfl (cA rfl (cA rfl rfl))) rfl rfl (Kk k q x l))))) rfl
structure Fe where
 n:Nat
 x:Str
 l:Int
def kE(f:Fe):List bE:=[.inl (f.n:Int),.inr f.x,.inl f.l]
def lO(f:Fe):PV:=.aq [.int (f.n:Int),.str f.x,.int f.l]
theorem Ot:∀l:List Fe,ai (l.map lO)=true
 | []=>rfl
 | f::l=>by simp[ai,noRef,lO,Ot l]
def lA(a:cP)(x:Str)(l:Int):Bool:=(a.k==x) || flE a x l
def stE(a:cP)(c:List Nat)(f:Fe):List Fe:=if lA a f.x f.l=true then []else c.map λb=>⟨b,f.x,f.l⟩
theorem SW(k:Nat)(q:Nat×cP)(a:List Nat)(c:a.length<=1000)(f:Fe):Gives (run txt (k+3) "stays_empty" [eN q,nT a,lO f] []) (.lst ((stE q.2 a f).map lO)):=by
 rw[rD];have t:Ek (eH (toB (op2 jB (op2 bO (rd 0) (kI 6)) Ql)) (bg true) (iu (bnd (ay (rd 0) (ay Ql (ay (op2 bO (rd 2) (kI 2)) (bg [])))) (bJ 0 3 (run txt (k+2) "fills"))))) (S0 [some (eN q),some (nT a),some (lO f)]) (lA q.2 f.x f.l) :=
  orX (bT (b2 (b2 rfl rfl rfl) (b2 rfl rfl rfl) (fI _ _ _))) (tB (c7 (as:=[eN q,.str f.x,.int f.l]) (cA rfl (cA (b2 rfl rfl rfl) (cA (b2 rfl rfl rfl) rfl))) rfl rfl (SU k q f.x f.l)))
 unfold stE;cases he:lA q.2 f.x f.l with
 | true=>rw[he]at t;exact gV (nz (iT t (rS rfl))) rfl
 | false =>
  rw[he]at t;rw[if_neg dv,cy];refine gV (sq (iF t rfl) (rS (cM (l:=a) (e:=iN) (G:=λb=>lO ⟨b,f.x,f.l⟩) (sV (p:=nT a) rfl rfl) (by lia) λb _=>e1 (EW:=[none,some (iN b),some (lO f)]) (h1:=[]) rfl (tU (ps:=[iN b,.str f.x,.int f.l]) (cA rfl (cA (b2 (x:=lO f) rfl rfl rfl) (cA (b2 (x:=lO f) rfl rfl rfl) rfl))) (by simp))))) ?_
  have:=Ot (a.map λb=>⟨b,f.x,f.l⟩)
  rw[cy]at this;exact this
def SX(a:cP)(b:Nat):List Fe:=(Oq a).map λi=>⟨b,a.n,i⟩
def Ia(a:cP)(b:List Nat):List Fe:=if(a.w==Str.ofString "empty")=true then b.flatMap (SX a)else []
theorem Ib{a:cP}{X:List Str}(ok:wb X 3 a):(Oq a).length<=3:=by
 have b:=ok.f0;have c:=ok.m0;have d:=ok.few;rw[Oq,ao,fW]
 lia
theorem Ic(k:Nat){q:Nat×cP}{X:List Str}(ok:wb X 3 q.2)(A:PV):∀(l:List Nat) (acc:List Fe) (a:Option PV),acc.length+3*l.length<=1000 ->
  ∃c,c9 (aW 3) (CJ (run txt (k+1))) (l.map iN) ⟨[some (eN q),some A,some (.ref 0),a],[⟨.lst,acc.map lO⟩]⟩=some (.ok .nx,⟨[some (eN q),some A,some (.ref 0),c],[⟨.lst,(acc++l.flatMap (SX q.2)).map lO⟩]⟩)
 | [],acc,a,_=>⟨a,by simp;rfl⟩
 | b::l,acc,a,d=>by
  rw[aN]at d;have g:=Ib ok;have f:(SX q.2 b).length=(Oq q.2).length:=by unfold SX;rw[ao]
  obtain⟨c,e⟩:=Ic k ok A l (acc++SX q.2 b) (some (iN b)) (by rw[aX];lia)
  refine⟨c,?_⟩;rw[gS,<-b7];refine fC rfl (dS (p:=.bM) (AO (s2:=⟨[some (eN q),some A,some (.ref 0),some (iN b)],[⟨.lst,acc.map lO⟩]⟩) rfl rfl (cA (x:=.lst ((SX q.2 b).map lO)) ?_ rfl) ?_)) e
  ·rw[SX,cy];refine cM (l:=Oq q.2) (e:=PV.int) (sV (p:=.lst ((Oq q.2).map .int)) (c7 (as:=[eN q]) (cA rfl rfl) rfl (by simp[ai,noRef,eN,jX]) (Kj k (by decide) ok)) rfl) (by lia) λi _=>?_
   exact e1 (EW:=[none,some (.int i),some (eN q),some (iN b)]) (h1:=[⟨.lst,acc.map lO⟩]) rfl (tU (ps:=[iN b,.str q.2.n,.int i]) (cA rfl (cA (b2 (x:=eN q) rfl rfl rfl) (cA rfl rfl))) (by simp))
  ·rw[cf];exact xC (n:=0) rfl rfl (by rw[ao,ao];lia)
theorem Kl(k:Nat){q:Nat×cP}{X:List Str}(ok:wb X 3 q.2)(a:List Nat)(b:a.length<=2):Gives (run txt (k+2) "emptied" [eN q,nT a] []) (.lst ((Ia q.2 a).map lO)):=by
 rw[CK];have t:Ek (toB (op2 L8 (op2 bO (rd 0) (kI 1)) (kS "empty"))) (S0 [some (eN q),some (nT a),none,none]) (!(q.2.w==Str.ofString "empty")):=bT (b2 (b2 rfl rfl rfl) rfl (N2 _ _ _));unfold Ia;cases hw:q.2.w==Str.ofString "empty" with
 | false=>rw[hw]at t;exact gV (nz (iT t (rS rfl))) rfl
 | true =>
  rw[hw]at t;obtain⟨c,e⟩:=Ic k ok (nT a) a [] none (by simp;lia)
  rw[fE]at e;exact⟨.ref 0,_,gO (sq (iF t rfl) (sq rfl (sq (fS (sV (p:=nT a) rfl rfl) e) (rS rfl)))),ni (Ot _)⟩
end
section
variable {m:Md} {most:Nat}
def vk(d:Kn):Nat:=if fq d=true then 1 else(lv (bQ d)).length
def O8(q:Rk):List Fe:=(List.range (vk q.2)).map fun(i:Nat)=>⟨0,q.1,(i:Int)⟩
theorem Ie{ks:List Rk}(K:mx ks){q:Rk}(a:q∈ks):vk q.2<=3:=by
 unfold vk;split
 ·decide
 ·exact(K.good q a).2
theorem YJ(l:Nat):oS l=iN l:=by unfold oS iN;rw[mP]
theorem Dj(k:Nat)(hk:7<=k){ks:List Rk}(K:mx ks)(F:PV):∀(ps:List Rk) (acc:List Fe) (c f a:Option PV),(∀q∈ps,q∈ks)->acc.length+3*ps.length<=1000 ->
  ∃h o t,c9 Qs (ng (run txt k)) (ps.map bC) ⟨[some F,some (.ref 0),c,f,a],[⟨.lst,acc.map lO⟩]⟩=some (.ok .nx,⟨[some F,some (.ref 0),h,o,t],[⟨.lst,(acc++ps.flatMap O8).map lO⟩]⟩)
 | [],acc,c,f,a,_,_=>⟨c,f,a,by simp;rfl⟩
 | q::ps,acc,c,f,a,hp,w=>by
  rw[aN]at w;have v:=hp q aM;have hc:=Ie K v;obtain⟨j,rfl⟩:∃j,k=j+1:=⟨k-1,by lia⟩
  have y:(O8 q).length=vk q.2:=by unfold O8;rw[ao,fW]
  obtain⟨h,o,t,e⟩:=Dj (j+1) hk K F ps (acc++O8 q) (some (.str q.1)) (some (encK q.2)) (some (iN (vk q.2))) (λr B=>hp r (aK _ B)) (by rw[aX];lia)
  refine⟨h,o,t,?_⟩;rw[gS,<-b7];refine fC (s1:=⟨[some F,some (.ref 0),some (.str q.1),some (encK q.2),a],[⟨.lst,acc.map lO⟩]⟩) rfl ?_ e;have g:Ek (iu (bnd Q6 (bJ 0 1 (run txt (j+1) "is_holder")))) ⟨[some F,some (.ref 0),some (.str q.1),some (encK q.2),a],[⟨.lst,acc.map lO⟩]⟩ (fq q.2):=tB (c7 (as:=[encK q.2]) (cA rfl rfl) rfl (by simp[ai,rY]) (fO j q.2))
  have C:Ek (eH (iu (bnd Q6 (bJ 0 1 (run txt (j+1) "is_holder")))) (kI 1) (gL gX (ay (bnd Q6 (bJ 0 1 (run txt (j+1) "leaves"))) (bg [])))) ⟨[some F,some (.ref 0),some (.str q.1),some (encK q.2),a],[⟨.lst,acc.map lO⟩]⟩ (iN (vk q.2)):=by
   unfold vk;cases u:fq q.2 with
   | true=>rw[u]at g;exact iT g rfl
   | false =>
    rw[u]at g;obtain⟨x,d⟩:=q;cases d with
    | ho b s=>cases u
    | ow s =>
     have hd:=(K.good _ v).1.1;have D:=eK.all LA s j (by have:=hd.2;simp only[bQ]at this;lia) (by have:=xi s;have:=hd.1;simp only[bQ]at this;lia)
     refine iF g (bV (cA (c7 (as:=[enc s]) (cA rfl rfl) rfl (by simp[ai,dh]) D) rfl) ?_)
     show some (PV.int ((bU (lv s)).length:Int))=_;rw[eJ];rfl
  refine sq (aS C rfl) (dS (p:=.bM) (AO (s2:=⟨[some F,some (.ref 0),some (.str q.1),some (encK q.2),some (iN (vk q.2))],[⟨.lst,acc.map lO⟩]⟩) rfl rfl (cA (x:=.lst ((O8 q).map lO)) ?_ rfl) ?_))
  ·rw[O8,cy];refine cM (l:=List.range (vk q.2)) (e:=oS) (mw (j:=vk q.2) (cA rfl rfl) (by lia)) (by rw[fW];lia) λi _=>?_
   rw[YJ];exact e1 (EW:=[none,some (iN i),some (.str q.1)]) (h1:=[⟨.lst,acc.map lO⟩]) rfl (tU (ps:=[.int 0,.str q.1,iN i]) (cA rfl (cA rfl (cA rfl rfl))) (by simp))
  ·rw[cf];exact xC (n:=0) rfl rfl (by rw[ao,ao];lia)
theorem xM:∀q∈m.LT,q∈m.ks:=λq a=>dN _ a
theorem AB:m.LT.length=8:=rfl
def S2(m:Md):List Fe:=m.LT.flatMap O8
theorem wm(k:Nat)(hk:7<=k)(h:cY m most):run txt (k+1) "empty_at_first" [m.F1] []=some (.ok (.ref 0),[⟨.lst,(S2 m).map lO⟩]):=by
 obtain⟨a,b,c,e⟩:=Dj k hk h.ks m.F1 m.LT [] none none none xM (by rw[AB];decide)
 rw[fE]at e;rw[nh];exact gO (sq rfl (sq (fS (sV (p:=.aq (m.LT.map bC)) (b2 rfl rfl rfl) rfl) e) (rS rfl)))
end
section
variable {m:Md} {most:Nat} {cs:List Nat}
abbrev RW(m:Md):PV:=.lst (m.as.map eN)
abbrev AF(m:Md):PV:=.lst (m.Aw.map nT)
noncomputable def deE:List bE->Option Fe
 | [.inl n,.inr x,.inl l]=>if 0<=n then some ⟨n.toNat,x,l⟩else none
 | _=>none
theorem UL(f:Fe):deE (kE f)=some f:=by
 show(if 0<=(f.n:Int)then some (Fe.mk (f.n:Int).toNat f.x f.l)else none)=_
 rw[if_pos (by lia),eZ]
theorem Ou{k:List bE}{f:Fe}(h:deE k=some f):k=kE f:=by
 rcases k with _ | ⟨n | _,_ | ⟨_ | x,_ | ⟨l | _,_ | _⟩⟩⟩<;>first | (cases h;done) | skip
 obtain⟨a,h⟩:=b9 h;cases h;unfold kE;rw[show((Int.toNat _:Nat):Int)=_ from kG a]
def Dk(m:Md)(f:Fe):Option (List Fe):=(m.as[f.n]?).bind λq=>(m.Aw[f.n]?).map λa=>stE q.2 a f
def Dl(m:Md)(k:List bE):Option (List (List bE)):=(deE k).bind λf=>(Dk m f).map λfs=>fs.map kE
def nmX(m:Md):List Str:=""::DD m.ks
structure Gi (m:Md) (cs:List Nat) (f:Fe):Prop where
 n:f.n∈cs
 x:f.x∈nmX m
 l:0<=f.l/\f.l<3
def UE(m:Md)(cs:List Nat):List (List bE):=cs.flatMap λn=>(nmX m).flatMap λx=>(List.range 3).map fun(l:Nat)=>kE ⟨n,x,(l:Int)⟩
theorem AD{d e:Type}{c:Nat}{f:d->List e}:∀l:List d,(∀a∈l,(f a).length=c)->(l.flatMap f).length=l.length*c
 | [],_=>by simp
 | a::l,h=>by
  rw[gS,aX,h a aM,AD l λb g=>h b (aK _ g),aN,Nat.add_mul]
  lia
theorem Ov:(UE m cs).length=cs.length*(11*3):=by
 refine AD _ λn _=>?_
 have h:((nmX m).flatMap λx=>(List.range 3).map fun(l:Nat)=>kE ⟨n,x,(l:Int)⟩).length=(nmX m).length*3:=AD _ λx _=>by simp
 rw[h];unfold nmX DD;rw[aN,ao,qp]
theorem Gj{f:Fe}(h:Gi m cs f):kE f∈UE m cs:=by
 obtain⟨a,b,c⟩:=h;refine eF.mpr ⟨f.n,a,eF.mpr ⟨f.x,b,aE.mpr ⟨f.l.toNat,dD.mpr (by lia),?_⟩⟩⟩
 rw[kG c.1]
theorem UM{k:List bE}(h:k∈UE m cs):∃f,k=kE f/\Gi m cs f:=by
 obtain⟨n,a,h⟩:=eF.mp h;obtain⟨x,b,h⟩:=eF.mp h;obtain⟨l,c,rfl⟩:=aE.mp h;rw[dD]at c;exact⟨_,rfl,a,b,by show(0:Int)<=(l:Int);lia,by show(l:Int)<3;lia⟩
theorem Ig(a:lz m cs){n:Nat}(b:n∈cs):∃q,m.as[n]?=some q:=⟨_,b6 (a.lt n b)⟩
theorem Ih(h:cY m most)(a:most<=20)(b:lz m cs){n:Nat}(c:n∈cs):∃l,m.Aw[n]?=some l:=⟨_,b6 (by rw[Az h a];exact b.lt n c)⟩
theorem YK(h:cY m most)(i:most<=20)(e:lz m cs){f:Fe}(a:Gi m cs f):∃q l,m.as[f.n]?=some q/\m.Aw[f.n]?=some l/\Dk m f=some (stE q.2 l f)/\(∀g∈stE q.2 l f,Gi m cs g)/\(stE q.2 l f).length<=2:=by
 obtain⟨q,j⟩:=Ig e a.n;obtain⟨l,c⟩:=Ih h i e a.n;refine⟨q,l,j,c,by unfold Dk;rw[j,c];rfl,λg d=>?_,?_⟩
 ·unfold stE at d;split at d
  ·cases d
  ·obtain⟨b,k,rfl⟩:=aE.mp d;exact⟨e.nx f.n a.n l c b k,a.x,a.l⟩
 ·unfold stE;split
  ·simp
  ·rw[ao];exact(AA h i c).1
def YL(m:Md)(n:Nat):List Fe:=match m.as[n]?,m.Aw[n]? with | some q,some l=>Ia q.2 l | _,_=>[]
def ki(m:Md)(cs:List Nat):List Fe:=cs.flatMap (YL m)
def Ow(m:Md)(cs:List Nat):List Fe:=S2 m++ki m cs
theorem acF(h:cY m most)(c:lz m cs){n:Nat}(d:n∈cs){q:Nat×cP}{l:List Nat}(e:m.as[n]?=some q)(g:m.Aw[n]?=some l){f:Fe}(a:f∈Ia q.2 l):Gi m cs f:=by
 unfold Ia at a;split at a
 ·obtain⟨b,j,a⟩:=eF.mp a;obtain⟨i,k,rfl⟩:=aE.mp a;have ok:=Oo h (dc e);have:=(SS ok.m0).mp k;have o:=ok.f0;have p:=ok.few;refine⟨c.nx n d l g b j,?_,by show(0:Int)<=i;lia,by show i<3;lia⟩
  rcases ok.nm with z | z
  ·exact aK _ z
  ·show q.2.n∈_;rw[z];exact aM
 ·cases a
theorem Ox(h:cY m most)(a:most<=20){n:Nat}{q:Nat×cP}{l:List Nat}(c:m.as[n]?=some q)(d:m.Aw[n]?=some l):(Ia q.2 l).length<=6:=by
 unfold Ia;split
 ·have e:=Ib (Oo h (dc c));have f:=(AA h a d).1;have:(l.flatMap (SX q.2)).length=l.length*(Oq q.2).length:=AD _ λb _=>by unfold SX;rw[ao]
  rw[this];exact bA (Nat.mul_le_mul f e) (by decide)
 ·simp
theorem YM(h:cY m most)(j:most<=20)(c:lz m cs){f:Fe}(a:f∈Ow m cs):Gi m cs f:=by
 rcases bI.mp a with a | a
 ·obtain⟨q,b,a⟩:=eF.mp a;obtain⟨i,e,rfl⟩:=aE.mp a;have e:=dD.mp e;have:=Ie h.ks (xM q b);exact⟨c.zero,aK _ (aE.mpr ⟨q,xM q b,rfl⟩),by show(0:Int)<=(i:Int);lia,by show(i:Int)<3;lia⟩
 ·obtain⟨n,d,a⟩:=eF.mp a;obtain⟨q,b⟩:=Ig c d;obtain⟨l,g⟩:=Ih h j c d;unfold YL at a;rw[b,g]at a;exact acF h c d b g a
theorem Dn(k:Nat)(h:cY m most)(a:most<=20)(P:Option PV)(I:Option PV):∀(cs:List Nat) (acc:List Fe) (c:Option PV),(∀n∈cs,n<m.as.length)->acc.length+6*cs.length<=4000000 ->
  ∃g,c9 (aW 3) (qK (run txt (k+2))) (cs.map iN) ⟨[P,I,some (.ref 0),c,some (AF m),some (RW m)],[⟨.lst,acc.map lO⟩]⟩=some (.ok .nx,⟨[P,I,some (.ref 0),g,some (AF m),some (RW m)],[⟨.lst,(acc++ki m cs).map lO⟩]⟩)
 | [],acc,c,_,_=>⟨c,by simp[ki];rfl⟩
 | n::cs,acc,c,hc,t=>by
  rw[aN]at t;have i:=hc n aM;obtain⟨q,d⟩:∃q,m.as[n]?=some q:=⟨_,b6 i⟩
  obtain⟨l,f⟩:∃l,m.Aw[n]?=some l:=⟨_,b6 (by rw[Az h a];exact i)⟩
  have y:=Ox h a d f;have u:YL m n=Ia q.2 l:=by unfold YL;rw[d,f]
  obtain⟨g,e⟩:=Dn k h a P I cs (acc++Ia q.2 l) (some (iN n)) (λb v=>hc b (aK _ v)) (by rw[aX];lia)
  refine⟨g,?_⟩;rw[show ki m (n::cs)=Ia q.2 l++ki m cs by unfold ki;rw[gS,u],<-b7]
  have r:=Kl k (Oo h (dc d)) l (AA h a f).1;have j:∀H,bO H (RW m) (iN n)=some (eN q):=UJ d
  have o:∀H,bO H (AF m) (iN n)=some (nT l):=UK f
  have w:ai [eN q,nT l]=true:=by simp[ai,noRef,eN,jX,nT,jZ]
  generalize RW m=R at e j ⊢
  generalize AF m=A at e o ⊢
  refine fC (s1:=⟨[P,I,some (.ref 0),some (iN n),some A,some R],[⟨.lst,acc.map lO⟩]⟩) rfl (dS (p:=.bM) (AO (s2:=⟨[P,I,some (.ref 0),some (iN n),some A,some R],[⟨.lst,acc.map lO⟩]⟩) rfl rfl (cA (x:=.lst ((Ia q.2 l).map lO)) (c7 (as:=[eN q,nT l]) (cA (b2 rfl rfl (j _)) (cA (b2 rfl rfl (o _)) rfl)) rfl (by rw[w];simp) r) rfl) ?_)) e
  rw[cf];exact xC (n:=0) rfl rfl (by rw[ao,ao];lia)
end
section
variable {m:Md} {most:Nat} {cs:List Nat}
structure S3 (m:Md) (cs:List Nat) (ah:eW):Prop where
 ok:∀t∈ah,∃f,t.1=kE f/\Gi m cs f
 nd:(ah.map (·.1)).Nodup
 done:Fy (Dl m) ah ah.length
 fst:∀f∈Ow m cs,kE f∈ah.map (·.1)
theorem Oy(h:cY m most)(c:most<=20)(a:lz m cs):cs.length<=126:=by
 have:=jx cs (List.range m.as.length) a.nd λn b=>dD.mpr (a.lt n b)
 rw[fW]at this;have:=Ay h
 lia
theorem YN(h:cY m most):(S2 m).length<=24:=by
 have:∀l:List Rk,(∀q∈l,q∈m.ks)->(l.flatMap O8).length<=3*l.length:=λl=>by
  induction l with
  | nil=>exact λ_=>by simp
  | cons q l ih =>
   intro a;rw[gS,aX,aN];have:=Ie h.ks (a q aM);have:=ih λr b=>a r (aK _ b)
   have:(O8 q).length=vk q.2:=by unfold O8;rw[ao,fW]
   lia
 have:=this m.LT xM;rw[AB]at this;exact this
theorem Dp(h:cY m most)(a:most<=20):∀cs:List Nat,(∀n∈cs,n<m.as.length)->(ki m cs).length<=6*cs.length
 | [],_=>by simp[ki]
 | n::cs,hc=>by
  have c:=hc n aM;obtain⟨q,d⟩:∃q,m.as[n]?=some q:=⟨_,b6 c⟩
  obtain⟨l,e⟩:∃l,m.Aw[n]?=some l:=⟨_,b6 (by rw[Az h a];exact c)⟩
  have g:=Ox h a d e;have ih:=Dp h a cs λb f=>hc b (aK _ f)
  unfold ki at ih ⊢;rw[gS,aX,aN,show YL m n=Ia q.2 l by unfold YL;rw[d,e]]
  lia
theorem Km(k:Nat)(hk:14<=k)(h:cY m most)(b:most<=20)(hc:Gives (run txt (k+3) "come_to" [m.prog,.int 1] []) (.lst (cs.map iN)))(j:lz m cs):∃ah,Gives (run txt (k+4) "empties" [m.prog,.int 1] []) (.lst (ah.map toldP))/\S3 m cs ah:=by
 have Q:=Oy h b j;have hU:(UE m cs).length<=5000:=by rw[Ov];lia
 have T:=YN h;have X:=Dp h b cs j.lt;obtain⟨ah,Y,Z,t3,_,t5,t6⟩:=uH (Dl m) ((Ow m cs).map kE) (UE m cs) 2 (by show _<4000000;lia) (by show _<3000000;lia) (λg a=>by
  obtain⟨f,rfl,c⟩:=UM a;obtain⟨q,l,h1,h2,h3,h4,h5⟩:=YK h b j c;refine⟨(stE q.2 l f).map kE,?_,λk' v=>?_,by rw[ao];exact h5⟩
  ·unfold Dl;rw[UL,dO,h3];rfl
  ·obtain⟨w,d,rfl⟩:=aE.mp v;exact Gj (h4 w d)) (λk' v=>by
  obtain⟨f,c,rfl⟩:=aE.mp v;exact Gj (YM h b j c))
 refine⟨ah,?_,⟨λt ht=>UM (t3 t ht),Z,t5,λf c=>t6 _ (aE.mpr ⟨f,c,rfl⟩)⟩⟩
 rw[CI];have o:=Ax h (by lia) (k+2) (by lia)
 have u:=(ly h b (k+1) (by lia)).1
 have C:=wm (k+2) (by lia) h
 obtain⟨D,e⟩:=Dn (k+1) h b (some m.prog) (some (.int 1)) cs (S2 m) none j.lt (by lia)
 have lm:∀g (fs:List (List bE)),Dl m g=some fs->∃(q:Nat) (l:(Nat×cP)×List Nat),(∀H,bO H (dk g) (.int 0)=some (.int (q:Int)))/\m.as[q]?=some l.1/\m.Aw[q]?=some l.2/\Gives (run txt (k+3) "stays_empty" [eN l.1,nT l.2,dk g] []) (.lst (fs.map dk)):=λg fs a=>by
  unfold Dl at a;obtain⟨f,E,x⟩:=aZ a;obtain⟨Vm,y,rfl⟩:=bt x;cases Ou E;unfold Dk at y;obtain⟨q,d5,d6⟩:=aZ y;obtain⟨l,I,rfl⟩:=bt d6;refine⟨f.n,(q,l),λ_=>rfl,d5,I,?_⟩
  have:=SW k q l (by have:=(AA h b I).1;lia) f
  rw[cy];exact this
 have J:∀{n:Nat} {q:Nat×cP},m.as[n]?=some q->∀H,bO H (RW m) (.int (n:Int))=some (eN q):=λe H=>UJ e H
 have L:∀{n:Nat} {l:List Nat},m.Aw[n]?=some l->∀H,bO H (AF m) (.int (n:Int))=some (nT l):=λe H=>UK e H
 have M:=H9 h;have i:∀H,bO H m.prog (.int 1)=some m.F1:=Gg
 have nF:=H0 h;obtain⟨P,hP⟩:=nw m.prog;obtain⟨F,hF⟩:=nw m.F1;rw[<-hF]at C nF i;have o:Gives (run txt (k+3) "acts" [m.prog,.int 1] []) (RW m):=o;have u:Gives (run txt (k+3) "nexts" [m.prog,.int 1] []) (AF m):=u;rw[<-hP]at o u hc M i e ⊢
 generalize RW m=R at o e J
 generalize AF m=A at u e L
 have a5:Ev (di (bnd Qb (bJ 0 2 (run txt (k+3) "acts"))) (aW 5)) (S0 [some P,some (.int 1),none,none,none,none]) .nx (S0 [some P,some (.int 1),none,none,none,some R]):=aS (c7 (as:=[P,.int 1]) (cA rfl (cA rfl rfl)) rfl rfl o) rfl;have a4:Ev (di (bnd Qb (bJ 0 2 (run txt (k+3) "nexts"))) (aW 4)) (S0 [some P,some (.int 1),none,none,none,some R]) .nx (S0 [some P,some (.int 1),none,none,some A,some R]):=aS (c7 (as:=[P,.int 1]) (cA rfl (cA rfl rfl)) rfl rfl u) rfl;have a2:Ev (di (bnd (ay Qe (bg [])) (bJ 1 1 (run txt (k+3) "empty_at_first"))) (aW 2)) (S0 [some P,some (.int 1),none,none,some A,some R]) .nx ⟨[some P,some (.int 1),some (.ref 0),none,some A,some R],[⟨.lst,(S2 m).map lO⟩]⟩:=aS (O4 (as:=[F]) (cA (b2 rfl rfl (i _)) rfl) rfl rfl C) rfl;have cm:Ek (jr (bnd Qb (bJ 0 2 (run txt (k+3) "come_to")))) ⟨[some P,some (.int 1),some (.ref 0),none,some A,some R],[⟨.lst,(S2 m).map lO⟩]⟩ (.sq (cs.map iN)):=sV (c7 (as:=[P,.int 1]) (cA rfl (cA rfl rfl)) rfl (by simp[ai,M,noRef]) hc) rfl
 have r:=NL (fe:=rd 2) (fb:=bnd Qg (bJ 0 3 (run txt (k+3) "stays_empty"))) (link:=[some 4,some 5]) (s:=⟨[some P,some (.int 1),some (.ref 0),D,some A,some R],[⟨.lst,(S2 m++ki m cs).map lO⟩]⟩) (s1:=⟨[some P,some (.int 1),some (.ref 0),D,some A,some R],[⟨.lst,(S2 m++ki m cs).map lO⟩]⟩) (p:=.ref 0) (fk:=(Ow m cs).map kE) (res:=ah) rfl (.inr ⟨0,rfl,by rw[cy];rfl⟩) (HF (k+2)) (NP (k+3)) (λf c=>by
  obtain⟨w,_,rfl⟩:=aE.mp c;show 3<1000;decide) (by
  rw[ao];unfold Ow;rw[aX]
  lia) Y (λg fs a=>by
  obtain⟨n,⟨q,l⟩,N,g1,g2,g3⟩:=lm g fs a;refine⟨λw d=>?_,λB=>⟨some (dk g)::[some A,some R],?_⟩⟩
  ·unfold Dl at a;obtain⟨f,E,x⟩:=aZ a;obtain⟨Vm,y,rfl⟩:=bt x;obtain⟨f'',_,rfl⟩:=aE.mp d;show 3<1000;decide
  ·exact c7 (as:=[eN q,nT l,dk g]) (cA (b2 rfl (b2 rfl rfl (N _)) (J g1 _)) (cA (b2 rfl (b2 rfl rfl (N _)) (L g2 _)) (cA rfl rfl))) rfl (by simp[ai,noRef,eN,jX,nT,jZ,Sf]) g3)
 refine⟨.ref 2,_,gO (sq a5 (sq a4 (sq a2 (sq (fS cm e) (rS r))))),?_⟩;exact uW (n:=2) (X1 (hd:=[⟨.lst,(S2 m++ki m cs).map lO⟩,ox])) (Am ah)
end
theorem Dq:∀(A B:List (List cP)) (i:Nat),eA i (A++B)=eA i A++eA (i+A.length) B
 | [],_,_=>rfl
 | a::A,B,i=>by rw[sL,eA,eA,Dq A B (i+1),b7,aN,Nat.add_right_comm,sR]
theorem Gk(as:List cP):∃a l,dt as=a::l:=by cases as with | nil=>exact⟨_,_,rfl⟩ | cons a l=>exact⟨_,_,rfl⟩
theorem qr:∀(as:List (Nat×cP)) (i:Nat) (kvs:List (bE×PV)) (k:bE) (p:PV),cJ kvs k=some p->cJ (iS as i kvs) k=some p
 | [],_,_,_,_,h=>h
 | (j,_)::as,i,kvs,k,p,h=>by
  rw[iS];split
  ·exact qr as _ _ _ _ h
  ·refine qr as _ _ _ _ ?_;unfold cJ at h ⊢;rw[DY];cases z:kvs.find? λa=>decide (a.1=k)with
   | none=>rw[z]at h;cases h
   | some q=>rw[z]at h;exact h
theorem o9(j:Nat)(a:cP)(c:List (Nat×cP)):∀(b:List (Nat×cP)) (i:Nat) (kvs:List (bE×PV)),(∀q∈b,q.1≠j)->cJ kvs (.inl (j:Int))=none->cJ (iS (b++(j,a)::c) i kvs) (.inl (j:Int))=some (.int ((i+b.length:Nat):Int))
 | [],i,kvs,_,h=>by
  show cJ (iS ((j,a)::c) i kvs) _=_;rw[iS,h];refine qr _ _ _ _ _ ?_;unfold cJ at h ⊢;rw[DY,DO.mp h];simp
 | (n,x)::b,i,kvs,d,h=>by
  have g:n≠j:=d _ aM;have e:i+((n,x)::b).length=i+1+b.length:=by rw[aN];lia
  rw[e,sL,iS];split
  ·exact o9 j a c b (i+1) kvs (λq f=>d q (aK _ f)) h
  ·refine o9 j a c b (i+1) _ (λq f=>d q (aK _ f)) ?_
   unfold cJ at h ⊢;rw[DY,DO.mp h];simp
   lia
section
variable {m:Md} {most:Nat} {cs:List Nat} {ah:eW}
def si(m:Md)(j:Nat):Nat:=mv (iS m.as 0 []) j
structure acG (m:Md) (j:Nat) (r:Ro) (b:List (Nat×cP)) (c:List (Nat×cP)):Prop where
 eq:m.as=b++(dt (vc r)).map (λa=>(j,a))++c
 c:∀q∈c,q.1≠j
 st:cJ (iS m.as 0 []) (.inl (j:Int))=some (.int (b.length:Int))
theorem S4{j:Nat}{r:Ro}(f:m.L[j]?=some r):∃b c,acG m j r b c/\si m j=b.length:=by
 obtain⟨t,u⟩:=bW.mp f;have e:m.A=m.A.take j++vc r::m.A.drop (j+1):=by
  have i:m.A[j]?=some (vc r):=by unfold Md.A;rw[bP,f];rfl
  obtain⟨v,k⟩:=bW.mp i;rw[<-k,<-ph,xY]
 have o:(m.A.take j).length=j:=by unfold Md.A;simp;lia
 have g:m.as=eA 0 (m.A.take j)++(dt (vc r)).map (λa=>(j,a))++eA (j+1) (m.A.drop (j+1)):=by
  unfold Md.as;rw[dq (eA 0) e,Dq,eA,o,d8,b7]
 have p:∀q∈eA 0 (m.A.take j),q.1≠j:=λq d=>by have:=(oQ _ _ q d).2;lia
 have h:cJ (iS m.as 0 []) (.inl (j:Int))=some (.int ((eA 0 (m.A.take j)).length:Int)):=by
  obtain⟨a,l,ho⟩:=Gk (vc r);rw[g,ho,aO,b7,sL,o9 j a _ _ 0 [] p rfl,d8]
 refine⟨_,_,⟨g,λq d=>by have:=(oQ _ _ q d).1;lia,h⟩,?_⟩
 unfold si mv;rw[h];rfl
theorem Oz(as:List (Nat×cP))(kvs:List (bE×PV))(nx:Nat->List Nat):∀(bs:List (Nat×cP)) (i n:Nat),(Ky as kvs nx i bs)[n]?=(bs[n]?).map λq=>jY as kvs nx (i+n) q
 | [],_,_=>rfl
 | q::bs,i,0=>rfl
 | q::bs,i,n+1=>by
  rw[Ky,xV,xV,Oz as kvs nx bs (i+1) n,Nat.add_right_comm,sR]
theorem AE{n:Nat}{q:Nat×cP}(h:m.as[n]?=some q):m.Aw[n]?=some (jY m.as (iS m.as 0 []) m.nx n q):=by
 have:=Oz m.as (iS m.as 0 []) m.nx m.as 0 n;rw[h,d8]at this;exact this
def OA(cs:List Nat)(ah:eW)(n:Nat)(x:Str)(l:Int):Prop:=n∈cs/\kE ⟨n,x,l⟩∈ah.map (·.1)
theorem YO(j:lz m cs)(T:S3 m cs ah){n:Nat}{q:Nat×cP}{x:Str}{l:Int}(c:m.as[n]?=some q)(hk:OA cs ah n x l)(he:lA q.2 x l=false):∀b∈jY m.as (iS m.as 0 []) m.nx n q,OA cs ah b x l:=by
 intro b d;have f:=AE c;refine⟨j.nx n hk.1 _ f b d,?_⟩;obtain⟨t,ht,e⟩:=aE.mp hk.2;obtain⟨i,g,a⟩:=List.getElem_of_mem ht;obtain⟨fs,h,k⟩:=T.done i t.1 t.2 g (by rw[b6 g,a])
 have o:Dl m t.1=some ((stE q.2 (jY m.as (iS m.as 0 []) m.nx n q) ⟨n,x,l⟩).map kE):=by
  rw[e];unfold Dl Dk;rw[UL];simp only[dO,c,f,gT]
 rw[o]at h;cases h;refine k _ (aE.mpr ⟨⟨b,x,l⟩,?_,rfl⟩);unfold stE;rw[if_neg (by rw[he];exact dv)]
 exact aE.mpr ⟨b,d,rfl⟩
def YQ(a:cP)(x:Str)(l:Int):Prop:=a.w=Str.ofString "empty"/\a.n=x/\l∈Oq a
theorem YR(f:lz m cs)(T:S3 m cs ah){n:Nat}{q:Nat×cP}{x:Str}{l:Int}(a:m.as[n]?=some q)(c:n∈cs)(he:YQ q.2 x l):∀b∈jY m.as (iS m.as 0 []) m.nx n q,OA cs ah b x l:=by
 intro b d;have e:=AE a;refine⟨f.nx n c _ e b d,T.fst _ (dN _ (eF.mpr ⟨n,c,?_⟩))⟩;unfold YL;rw[a,e];show _∈Ia q.2 _;unfold Ia;obtain⟨g,rfl,h⟩:=he;rw[if_pos (by rw[g];exact mJ _)]
 exact eF.mpr ⟨b,d,aE.mpr ⟨l,h,rfl⟩⟩
structure qt (m:Md) (j n:Nat) (bs:List cP):Prop where
 here:∀i a,bs[i]?=some a->m.as[n+i]?=some (j,a)
 over:(m.as[n+bs.length]?).map (·.1)≠some j
theorem AG{j n:Nat}{a:cP}{bs:List cP}(R:qt m j n (a::bs)):m.as[n]?=some (j,a)/\(bs=[]->jY m.as (iS m.as 0 []) m.nx n (j,a)=(m.nx j).map (si m))/\(bs≠[]->jY m.as (iS m.as 0 []) m.nx n (j,a)=[n+1]/\qt m j (n+1) bs):=by
 refine⟨R.here 0 a rfl,λe=>?_,λe=>⟨?_,λi b c=>?_,?_⟩⟩
 ·subst e;exact if_neg R.over
 ·cases bs with
  | nil=>exact absurd rfl e
  | cons b bs=>exact if_pos (by rw[R.here 1 b rfl];rfl)
 ·rw[sR,Nat.add_comm 1 i];exact R.here (i+1) b (by rw[xV];exact c)
 ·rw[sR,Nat.add_comm 1];exact R.over
theorem Dr{j:Nat}{r:Ro}(f:m.L[j]?=some r):qt m j (si m j) (dt (vc r))/\cJ (iS m.as 0 []) (.inl (j:Int))=some (.int (si m j:Int)):=by
 obtain⟨b,c,h,e⟩:=S4 f;refine⟨⟨λi a d=>?_,?_⟩,by rw[e];exact h.st⟩
 ·rw[e,h.eq,b7,mB (fB _ _),Nat.add_sub_cancel_left,ij (by rw[ao];exact(bW.mp d).1),bP,d]
  rfl
 ·rw[e,h.eq,mB (by simp)]
  intro z;obtain⟨q,g,z⟩:=mF.mp z;exact h.c q (dc g) z
theorem YS(d:lz m cs)(T:S3 m cs ah){j:Nat}{x:Str}{l:Int}:∀(bs:List cP) (n:Nat),bs≠[]->qt m j n bs->OA cs ah n x l->(∀a∈bs,lA a x l=false)->∀b∈(m.nx j).map (si m),OA cs ah b x l
 | [],_,h,_,_,_=>absurd rfl h
 | a::bs,n,_,R,hk,he=>by
  obtain⟨f,g,i⟩:=AG R;have c:=YO d T f hk (he a aM);by_cases e:bs=[]
  ·rw[g e]at c;exact c
  ·obtain⟨k,o⟩:=i e;rw[k]at c;exact YS d T bs (n+1) e o (c _ aM) λa p=>he a (aK _ p)
theorem OB(d:lz m cs)(T:S3 m cs ah){j:Nat}{x:Str}{l:Int}:∀(bs:List cP) (n:Nat),qt m j n bs->n∈cs->(∃a∈bs,YQ a x l)->(∀a∈bs,lA a x l=false)->∀b∈(m.nx j).map (si m),OA cs ah b x l
 | [],_,_,_,⟨_,h,_⟩,_=>nomatch h
 | a::bs,n,R,p,⟨t,f,c⟩,he=>by
  obtain⟨q,u,r⟩:=AG R;rcases aU.mp f with rfl | f
  ·have g:=YR d T q p c;by_cases e:bs=[]
   ·rw[u e]at g;exact g
   ·obtain⟨i,k⟩:=r e;rw[i]at g;exact YS d T bs (n+1) e k (g _ aM) λa o=>he a (aK _ o)
  ·have e:bs≠[]:=λz=>by subst z;cases f
   obtain⟨i,k⟩:=r e;exact OB d T bs (n+1) k (d.nx n p _ (AE q) _ (by rw[i];exact aM)) ⟨t,f,c⟩ λa o=>he a (aK _ o)
theorem OC(d:lz m cs){j:Nat}:∀(bs:List cP) (n:Nat),bs≠[]->qt m j n bs->n∈cs->∀b∈(m.nx j).map (si m),b∈cs
 | [],_,h,_,_=>absurd rfl h
 | a::bs,n,_,R,f=>by
  obtain⟨g,i,k⟩:=AG R;have c:=d.nx n f _ (AE g);by_cases e:bs=[]
  ·rw[i e]at c;exact c
  ·obtain⟨l,o⟩:=k e;exact OC d bs (n+1) e o (c _ (by rw[l];exact aM))
end
theorem YT(C:Int)(q i:Nat)(d:i<4):iD C q≠sI i:=by
 intro h;have b:(iD C q).cps.toList=(List.range (Kz C).length).map (O5 (Kz C) (NW C) q):=by simp[iD,F9,fz]
 rw[h,oT]at b;obtain⟨n,e⟩:∃n,Ao C=n+1:=⟨Ao C-1,by have:=u3 C;lia⟩
 rw[e,List.range_succ_eq_map,aO]at b;have f:=dq (λl=>l.head?) b
 have g:∀a:Nat,a<97->some a=some (O5 (Kz C) (NW C) q 0)->False:=λa c z=>by
  have:=cD z;unfold O5 cp at this
  lia
 have go:∀a:Nat,a<97->(sI i).cps.toList.head?=some a->False:=λa c z=>g a c (z.symm.trans f)
 match i,d,go with
 | 0,_,go=>exact go 48 (by decide) (by kernel_rfl)
 | 1,_,go=>exact go 49 (by decide) (by kernel_rfl)
 | 2,_,go=>exact go 50 (by decide) (by kernel_rfl)
 | 3,_,go=>exact go 51 (by decide) (by kernel_rfl)
noncomputable def Gn(x:Str)(f:Int)(n:Int):List (Str×Int):=(List.range n.toNat).map λi=>(x,f+(i:Nat)*1)
def UN(s:Sp):List (Str×Int):=Gn s.x s.r.2.1 s.r.2.2.1
def O9(q:Rk):List (Str×Int):=match q.2 with
 | .ow s=>if NJ s=true then []else Gn q.1 0 (sz s)
 | .ho _ _=>[]
def UO:Ro->List (Str×Int)
 | .nk _ s=>UN s
 | .drop s=>UN s
 | .call _ _ a=>a.flatMap O9
 | _=>[]
def S5(s:Sp):List (Str×Int):=if fq s.d=true\/ue s.a=false then []else UN s
def Zn:Ro->List (Str×Int)
 | .put _ s _=>S5 s
 | .set s _ _ _=>S5 s
 | .wc t _=>S5 t
 | .nk t _=>S5 t
 | .nu x _ _=>[(x,0)]
 | .call (some (x,.ow s)) _ _=>Gn x 0 (sz s)
 | .call (some (x,.ho _ _)) _ _=>[(x,0)]
 | _=>[]
section
variable {m:Md} {most:Nat} {x:Str} {l:Int}
def Gd(m:Md)(x:Str)(l:Int):Prop:=∃d,(x,d)∈m.ks/\(fq d=true->l=0)
theorem S6{f n:Int}(d:0<=n):(x,l)∈Gn y f n↔y=x/\f<=l/\l<f+n:=by
 unfold Gn;simp only[aE,dD,pM];constructor
 ·rintro⟨i,a,b,c⟩;exact⟨b,by lia,by lia⟩
 ·rintro⟨a,b,c⟩;exact⟨(l-f).toNat,by lia,a,by lia⟩
def vg(a:cP):Prop:=(a.k=Str.ofString ""\/∃i,i<4/\a.k=sI i)/\a.w≠Str.ofString "fill"
theorem UP(g:Gd m x l):∃i,x=iD m.C i:=by
 obtain⟨d,h,_⟩:=g;obtain⟨i,_,e⟩:=UC h;exact⟨i,e⟩
theorem quiet{a:cP}(g:Gd m x l)(h:vg a):lA a x l=false:=by
 obtain⟨i,rfl⟩:=UP g;obtain⟨b,c⟩:=h;unfold lA flE;rw[fV.mpr c,Bool.false_and,Bool.or_false,fV];rcases b with b | ⟨j,d,b⟩
 ·rw[b];exact λz=>absurd z.symm (fV.mp (Ga m.C i))
 ·rw[b];exact λz=>YT m.C i j d z.symm
theorem acH(a:PV):∀b∈Kx a,vg b:=by
 unfold Kx;split
 ·intro b c;cases aV.mp c;exact⟨.inl rfl,by show Str.ofString "read"≠_;decide +kernel⟩
 ·intro b c;cases c
theorem OD(o:Op):∀b∈qm o,vg b:=by
 cases o with
 | n i=>intro b a;cases a
 | s s =>
  intro b a;rcases bI.mp a with a | a
  ·exact acH _ b a
  ·cases aV.mp a;exact⟨.inl rfl,by show Str.ofString "read"≠_;decide +kernel⟩
theorem lP{s:Sp}(f:0<=s.r.2.2.1)(g:Gd m x l)(j:ue s.a=true)(h:lA (ql (Str.ofString "fill") s (Str.ofString "")) x l=true):(x,l)∈S5 s:=by
 obtain⟨i,rfl⟩:=UP g;unfold lA flE at h;rw[show((ql (Str.ofString "fill") s (Str.ofString "")).k==iD m.C i)=false from by rw[fV];exact λz=>absurd z.symm (fV.mp (Ga m.C i)),yu]at h
 have h:=(dY.mp h).2;obtain⟨b,c⟩:=dY.mp h;have b:(!fq s.d)=true:=b;unfold tch at c;obtain⟨c,e⟩:=dY.mp c;obtain⟨e,o⟩:=dY.mp e;unfold S5;rw[if_neg (by rw[j];simp at b;simp[b])]
 exact(S6 f).mpr ⟨bh c,dw e,dw o⟩
theorem jU{s:Sh}{r:Rw}(h:r∈tab s):0<=r.2.2.1:=by
 rw[uR s r h];exact Int.natCast_nonneg _
theorem Ii{s:Sp}{ks:List Rk}(c:cO ks s)(g:Gd m x l){a:cP}(b:a∈CQ s)(h:lA a x l=true):(x,l)∈S5 s:=by
 unfold CQ at b;split at b
 ·rename_i e;cases aV.mp b;exact lP (jU c.row) g (by rw[e];rfl) h
 ·exfalso
  have:vg a:=by
   rcases bI.mp b with b | b
   ·exact acH _ a b
   ·cases aV.mp b;exact⟨.inl rfl,by show Str.ofString "turn"≠_;decide +kernel⟩
  rw[quiet g this]at h;cases h
theorem YU(a:Gd m x l):lA CN x l=false:=quiet a ⟨.inl rfl,by show Str.ofString "rest"≠_;decide +kernel⟩
theorem agx(q:Rk)(i:Nat)(a:i<4):vg (X9 q.1 q.2 (sI i)):=by
 unfold X9;split
 ·refine⟨.inl rfl,?_⟩;show oW _≠_;unfold oW;split<;>decide +kernel
 ·refine⟨.inr ⟨i,a,rfl⟩,?_⟩;show(if _ then _ else _)≠_
  split<;>decide +kernel
theorem UQ:∀(b:List Rk) (i:Nat),i+b.length<=4->∀a∈lY i b,vg a
 | [],_,_,_,h=>nomatch h
 | r::l,i,c,a,h=>by
  rw[aN]at c;rcases aU.mp h with rfl | h
  ·exact agx r i (by lia)
  ·exact UQ l (i+1) (by lia) a h
theorem S7{d e:Kn}(h1:(x,d)∈m.ks)(a:(x,e)∈m.ks):d=e:=by
 have b:=jy _ _ (@xK m) h1;have c:=jy _ _ (@xK m) a;exact cD (b.symm.trans c)
theorem UR(g:Gd m x l){b:Bool}{s:Sh}(h:(x,Kn.ho b s)∈m.ks):l=0:=by
 obtain⟨d,a,c⟩:=g;cases S7 a h;exact c rfl
theorem US{a:cP}(h:lA a x l=true)(hw:a.w≠Str.ofString "fill"):a.k=x:=by
 unfold lA flE at h;rw[fV.mpr hw,Bool.false_and,Bool.or_false]at h;exact bh h
theorem S8{r:Ro}{C:Cs}{M:Nat}(ok:vb C m.ks M r)(g:Gd m x l):∀a∈vc r,lA a x l=true->(x,l)∈Zn r:=by
 intro a c h;have e:vg a->(x,l)∈Zn r:=λq=>by rw[quiet g q]at h;cases h
 cases r with
 | put p s o =>
  rcases bI.mp c with c | c
  ·exact e (OD o a c)
  ·exact Ii ok.1 g c h
 | set s w a1 u =>
  rcases bI.mp c with c | c
  ·rcases bI.mp c with c | c
   ·exact e (OD _ a c)
   ·exact e (OD _ a c)
  ·exact Ii ok.1 g c h
 | wc t s =>
  rcases aU.mp c with rfl | c
  ·exact e ⟨.inl rfl,by show Str.ofString "read"≠_;decide +kernel⟩
  ·cases aV.mp c;exact lP (jU ok.1.row) g (by rw[ok.2.2.1];rfl) h
 | nk t s =>
  rcases aU.mp c with rfl | c
  ·exact e ⟨.inl rfl,by show Str.ofString "empty"≠_;decide +kernel⟩
  ·cases aV.mp c;exact lP (jU ok.1.row) g (by rw[ok.2.2.1];rfl) h
 | drop s =>
  cases aV.mp c;exact e ⟨.inl rfl,by show Str.ofString "empty"≠_;decide +kernel⟩
 | nu y b s =>
  cases aV.mp c;cases(US h (by show lw b≠_;cases b<;>decide +kernel):y=x)
  rw[UR g ok.2.2.1];exact aV.mpr rfl
 | call f j k =>
  rcases bI.mp c with c | c
  ·exact e (UQ k 0 (by have:=ok.2.2.2.2.1;lia) a c)
  ·rcases aU.mp c with rfl | c
   ·exact e ⟨.inl rfl,by show Str.ofString "hand"≠_;decide +kernel⟩
   ·cases f with
    | none=>cases c
    | some q =>
     have hk:=ok.2.2.2.2.2 q rfl;obtain⟨y,d⟩:=q;cases d with
     | ow s =>
      cases aV.mp c;have:=lP (s:=⟨y,.ow s,Al s,.bM⟩) (Int.natCast_nonneg _) g rfl h;exact this
     | ho b s =>
      cases aV.mp c;cases(US h (by show Str.ofString "take"≠_;decide +kernel):y=x)
      rw[UR g hk];exact aV.mpr rfl
 | Ge o i m=>exact e (OD o _ (by rcases bI.mp c with c | c;exact c;cases c))
 | go=>cases c
 | SF o=>exact e (OD _ _ c)
 | jA z =>
  cases z with
  | none=>cases c
  | some q =>
   cases aV.mp c;refine e ?_;unfold gvA;split
   ·refine⟨.inl rfl,?_⟩;show oW _≠_;unfold oW;split<;>decide +kernel
   ·exact⟨.inl rfl,by show Str.ofString "give"≠_;decide +kernel⟩
theorem Ij{q:Rk}:∀(a:List Rk) (i:Nat),q∈a->∃j,X9 q.1 q.2 (sI j)∈lY i a
 | [],_,h=>nomatch h
 | r::l,i,h=>by
  rcases aU.mp h with rfl | h
  ·exact⟨i,aM⟩
  ·obtain⟨j,b⟩:=Ij l (i+1) h;exact⟨j,aK _ b⟩
theorem xN{y:Str}{f n:Int}(h:(x,l)∈Gn y f n):y=x/\l∈(List.range n.toNat).map λi=>f+(i:Nat)*1:=by
 obtain⟨i,a,e⟩:=aE.mp h;cases e;exact⟨rfl,aE.mpr ⟨i,a,rfl⟩⟩
theorem acI{q:Rk}(h:(x,l)∈O9 q):∃s,q.2=.ow s/\NJ s=false/\(x,l)∈Gn q.1 0 (sz s):=by
 unfold O9 at h;split at h
 ·rename_i s e;split at h
  ·cases h
  ·rename_i hc;exact⟨s,e,by simpa using hc,h⟩
 ·cases h
theorem YV{r:Ro}{C:Cs}{M:Nat}(ok:vb C m.ks M r)(h:(x,l)∈UO r):∃a∈vc r,YQ a x l:=by
 cases r with
 | nk t s =>
  obtain⟨b,c⟩:=xN h;exact⟨_,aM,rfl,b,c⟩
 | drop s =>
  obtain⟨b,c⟩:=xN h;exact⟨_,aM,rfl,b,c⟩
 | call k j d =>
  obtain⟨q,f,h⟩:=eF.mp h;obtain⟨s,e,hc,h⟩:=acI h;obtain⟨b,c⟩:=xN h;obtain⟨i,g⟩:=Ij d 0 f;refine⟨_,ik _ g,?_⟩;rw[e];exact⟨show oW s=_ by unfold oW;rw[hc];rfl,b,c⟩
 | _=>cases h
theorem acJ{r:Ro}{C:Cs}{M:Nat}(ok:vb C m.ks M r)(h:(x,l)∈UO r):Gd m x l:=by
 cases r with
 | nk t s =>
  obtain⟨rfl,_⟩:=xN h;exact⟨_,ok.2.1.mem,λz=>by rw[ok.2.2.2.2.2.2]at z;cases z⟩
 | drop s =>
  obtain⟨rfl,_⟩:=xN h;exact⟨_,ok.1.mem,λz=>by rw[ok.2.2]at z;cases z⟩
 | call b j c =>
  obtain⟨q,a,h⟩:=eF.mp h;obtain⟨s,e,hc,h⟩:=acI h;obtain⟨rfl,_⟩:=xN h;exact⟨q.2,ok.2.2.2.1 q a,λz=>by rw[e]at z;cases z⟩
 | _=>cases h
theorem OF{cs:List Nat}{ah:eW}(h:cY m most)(i:lz m cs)(T:S3 m cs ah){j:Nat}{r:Ro}(p:m.L[j]?=some r)(q:si m j∈cs){k:Nat}(hk:k∈m.nx j):si m k∈cs/\∀x l,Gd m x l->(OA cs ah (si m j) x l\/(x,l)∈UO r)->(x,l)∉Zn r->OA cs ah (si m k) x l:=by
 obtain⟨R,_⟩:=Dr p;have ok:=h.ok r (dc p);have o:si m k∈(m.nx j).map (si m):=aE.mpr ⟨k,hk,rfl⟩;obtain⟨u,v,ne⟩:=Gk (vc r);have ne:dt (vc r)≠[]:=by rw[ne];exact List.cons_ne_nil _ _
 refine⟨OC i _ _ ne R q _ o,λx l g f t=>?_⟩
 have he:∀a∈dt (vc r),lA a x l=false:=λa d=>by
  have:a=CN\/a∈vc r:=by
   revert d
   unfold dt;cases vc r with
   | nil=>exact λd=>.inl (aV.mp d)
   | cons b c=>exact .inr
  rcases this with rfl | d
  ·exact YU g
  ·cases z:lA a x l with
   | false=>rfl
   | true=>exact absurd (S8 ok g a d z) t
 rcases f with f | f
 ·exact YS i T _ _ ne R f he _ o
 ·obtain⟨a,d,e⟩:=YV ok f;have d:a∈dt (vc r):=by
   revert d
   unfold dt;cases vc r with
   | nil=>exact λd=>nomatch d
   | cons b c=>exact id
  exact OB i T _ _ R q ⟨a,d,e⟩ he _ o
end
theorem UT{c:CT}(A P K:Option PV):∀(ps:List Sh) (a:Int) (b:Option PV),(∀s∈ps,Gives (c "_law_leaves" [enc s] []) (.lst (bU (lv s))))->∃d,c9 (aW 4) (FJ c) (ps.map enc) (S0 [A,P,some (.int a),K,b])=some (.ok .nx,S0 [A,P,some (.int (a+((gP ps).length:Int))),K,d])
 | [],a,b,_=>⟨b,by simp[gP];rfl⟩
 | s::ps,a,b,h=>by
  obtain⟨d,e⟩:=UT A P K ps (a+((lv s).length:Int)) (some (enc s)) λt ht=>h t (aK _ ht)
  refine⟨d,?_⟩;rw[show a+((gP (s::ps)).length:Int)=a+((lv s).length:Int)+((gP ps).length:Int) by simp only[gP,aX];lia]
  refine fC rfl (aS (b2 rfl (bV (cA (c7 (cA rfl rfl) rfl rfl (h s aM)) rfl) (z:=.int ((lv s).length:Int)) ?_) rfl) rfl) e;show some (PV.int ((bU (lv s)).length:Int))=_;rw[eJ]
theorem Ik(k:Nat)(P:Option PV):∀(p:List Int) (s:Sh) (a:Int) (g f:Option PV) (d:Sh) (e:Int),(tab s).length<=500->dp s<=k->walk s a p=some (d,e)->∃t j,c9 (aW 3) (FK (run txt (k+1))) (p.map .int) (S0 [some (enc s),P,some (.int a),g,f])=some (.ok .nx,S0 [some (enc d),P,some (.int e),t,j])
 | [],s,a,g,f,d,e,_,_,h=>by
  simp[walk]at h;obtain⟨rfl,rfl⟩:=h;exact⟨g,f,rfl⟩
 | i::p,s,a,g,f,d,e,ht,hd,h=>by
  obtain⟨x,u,hw⟩:=mE.mp (show(Kw s i).bind (λx=>walk x.1 (a+x.2) p)=some (d,e)from h)
  obtain⟨b,rfl,l,m,v⟩:=lu u;have o:x.1∈b:=dc m;have M:=xj o;have w:(tab (.bB b)).length=iI b+1:=by simp only[tab,aN,gQ]
  have y:=zQ b;have B:=uD b;have C:=ND o;have D:qF b+1<=k:=by simpa only[dp]using hd
  obtain⟨j,q⟩:=UT (c:=run txt (k+1)) (some (enc (.bB b))) P (some (.int i)) (b.take i.toNat) a f λs E=>iC b k (by lia) (by lia) s (DT E)
  obtain⟨H,I,r⟩:=Ik k P p x.1 (a+x.2) (some (.int i)) j d e (by lia) (by lia) hw
  rw[<-v]at q;have J:=rZ l m;have L:IZ [] none (some i) (.aq (bU b))=some (.aq ((b.take i.toNat).map enc)):=by
   show some (PV.aq (km (bU b) none (some i)))=_;rw[<-kG l,FP,jw,yw,eZ]
  exact⟨H,I,fC rfl (sq (fS (sV (cE (b2 rfl rfl rfl) rfl rfl L) rfl) q) (aS (b2 (b2 rfl rfl rfl) rfl J) rfl)) r⟩
theorem OG(k:Nat)(s:Sh)(p:List Int)(x:Sh×Int)(ht:(tab s).length<=500)(hd:dp s<=k)(h:walk s 0 p=some x):Gives (run txt (k+2) "_law_first" [enc s,.aq (p.map .int)] []) (.int x.2):=by
 rw[FL];obtain⟨a,b,q⟩:=Ik k (some (.aq (p.map .int))) p s 0 none none x.1 x.2 ht hd h;exact gV (sq (aS rfl rfl) (sq (fS rfl q) (rS rfl))) rfl
theorem Ds:∀(kvs acc:List (bE×PV)),((acc++kvs).map (·.1)).Nodup->w6 kvs ⟨.fJ false (acc.map λq=>[q.1]),acc.map (·.2)⟩=⟨.fJ false ((acc++kvs).map λq=>[q.1]),(acc++kvs).map (·.2)⟩
 | [],acc,_=>by rw[eG];rfl
 | (k,p)::kvs,acc,h=>by
  have a:kn [k] (acc.map λq=>[q.1])=false:=by
   unfold kn;rw[List.any_eq_false];intro x b;obtain⟨q,c,rfl⟩:=aE.mp b;rw[cf,pE]at h;simp only[kK];intro e;injection e with e _
   exact h.2.2 q.1 (aE.mpr ⟨q,c,rfl⟩) k (by simp) e
  have ih:=Ds kvs (acc++[(k,p)]) (by grind)
  show w6 kvs (m4 false [k] p (acc.map λq=>[q.1]) (acc.map (·.2)))=_
  unfold m4;rw[a,if_neg dv];rw[b7,cf,cf]at ih;exact ih
def S9{ks:List Rk}(b:(ks.map (·.1)).Nodup)(a:ks.length<=1000):JD (ks.map bC)=some ⟨.fJ false (ks.map λq=>[.inr q.1]),ks.map λq=>encK q.2⟩:=by
 have e:∀ks:List Rk,dj Hn (ks.map bC)=some (ks.map λq=>((.inr q.1:bE),encK q.2)):=λks=>by
  induction ks with
  | nil=>rfl
  | cons q ks ih=>rw[aO,dj,ih];rfl
 unfold JD;rw[ao,if_pos a,e,gT];have:=Ds (ks.map λq=>((.inr q.1:bE),encK q.2)) [] (by
  grind)
 rw[fE,cy,cy]at this;exact dq some this
theorem Dt(x:Str):∀ks:List Rk,gM [.inr x] (ks.map λq=>[.inr q.1]) (ks.map λq=>encK q.2)=(oK ks x).map encK
 | []=>rfl
 | q::ks=>by
  rw[aO,aO,gM,oK];by_cases e:q.1=x
  ·grind
  ·rw[if_neg (by grind),if_neg e]
   exact Dt x ks
abbrev pL(q:Str×Int):PV:=.aq [.str q.1,.int q.2]
def qT(m:Md):aw:=⟨.fJ false (m.ks.map λq=>[.inr q.1]),m.ks.map λq=>encK q.2⟩
section
variable {m:Md} {most:Nat} {H:List aw}
theorem OH(b:H[0]?=some (qT m)){x:Str}{d:Kn}(c:(x,d)∈m.ks):bO H (.ref 0) (.str x)=some (encK d):=by
 have e:cS H (.ref 0)=some (.fJ false (m.ks.map λq=>[.inr q.1]),m.ks.map λq=>encK q.2):=by
  show(H[0]?).bind _=_;rw[b];rfl
 show(match cS H (.ref 0)with
  | some (.aq,a)=>(oh (.str x)).bind (L2.lF a)
  | some (.lst,a)=>(oh (.str x)).bind (L2.lF a)
  | some (.fJ t ks,a)=>(iz t (.str x)).bind λk=>gM k ks a
  | _=>none)=_
 rw[e];show gM [.inr x] _ _=_;rw[Dt,jy m.ks (x,d) xK c];rfl
theorem YW:∀l:List Int,ai (l.map PV.int)=true
 | []=>rfl
 | _::l=>YW l
theorem Il(c:CT)(A P L:Option PV):∀(p:List Int) (s:Sh) (a:Int) (e:Option PV) (b:Sh) (d:Int),walk s a p=some (b,d)->∃f,c9 (aW 4) (Ad c) (p.map .int) ⟨[A,P,some (enc s),L,e],H⟩=some (.ok .nx,⟨[A,P,some (enc b),L,f],H⟩)
 | [],s,a,e,b,d,h=>by
  simp[walk]at h;obtain⟨rfl,rfl⟩:=h;exact⟨e,rfl⟩
 | i::p,s,a,e,b,d,h=>by
  obtain⟨x,g,hw⟩:=mE.mp (show(Kw s i).bind (λx=>walk x.1 (a+x.2) p)=some (b,d)from h)
  obtain⟨l,rfl,j,k,_⟩:=lu g;obtain⟨f,q⟩:=Il c A P L p x.1 (a+x.2) (some (.int i)) b d hw;exact⟨f,fC rfl (aS (b2 (b2 rfl rfl rfl) rfl (rZ j k)) rfl) q⟩
theorem ny(k:Nat)(hk:4<=k)(f:H[0]?=some (qT m)){s:Sp}(c:cO m.ks s)(v:noRef s.a=true):run txt (k+3) "_law_touched" [.ref 0,bH s] H=some (.ok (.lst ((UN s).map pL)),H):=by
 obtain⟨x,d,r,a⟩:=s;have hw:=uE (bQ d) r c.row 0;have g:=uR (bQ d) r c.row;have hd:=qj (bQ d) r c.row;have h1:(tab (bQ d)).length<=100:=c.ok.1;have w:dp (bQ d)<=3:=c.ok.2;have y:=xi (bQ d);rw[mP]at hw;have h:=OG k (bQ d) r.1 _ (by lia) (by lia) hw
 have o:=jz r.2.2.2 (k+1) (by lia) (by lia)
 obtain⟨p,q⟩:=Il (run txt (k+2)) (some (.ref 0)) (some (NH x (fq d) r.1 a)) (some (.int r.2.1)) r.1 (bQ d) 0 none _ _ hw (H:=H);rw[Ae];have t:Ek (op2 bO (rd 0) Qw) ⟨[some (.ref 0),some (NH x (fq d) r.1 a),none,none,none],H⟩ (encK d):=b2 rfl (b2 rfl rfl rfl) (OH f c.mem);have u:Ev (eH (iu Q2) (di Ql (aW 2)) (bg .nx)) ⟨[some (.ref 0),some (NH x (fq d) r.1 a),some (encK d),none,none],H⟩ .nx ⟨[some (.ref 0),some (NH x (fq d) r.1 a),some (enc (bQ d)),none,none],H⟩:=by
  cases d with
  | ow s=>exact iF (tB (b:=false) (b2 rfl rfl rfl)) rfl
  | ho b s=>exact iT (tB (b:=true) (b2 rfl rfl rfl)) (aS (b2 rfl rfl rfl) rfl)
 refine gO (vL:=[some (.ref 0),some (NH x (fq d) r.1 a),some (enc r.2.2.2),some (.int r.2.1),p]) ?_;refine sq (aS t rfl) (sq u (sq (aS (c7 (as:=[enc (bQ d),.aq (r.1.map .int)]) (cA rfl (cA (b2 rfl rfl rfl) rfl)) rfl (by simp[ai,noRef,dh,YW]) h) rfl) (sq (fS (sV (b2 rfl rfl rfl) rfl) q) (rS ?_))))
 show Ev _ _ (PV.lst ((Gn x r.2.1 r.2.2.1).map pL)) _;unfold Gn;rw[cy,g,show(sz r.2.2.2).toNat=(lv r.2.2.2).length from rfl]
 refine cM (l:=List.range (lv r.2.2.2).length) (e:=oS) (mw (j:=(lv r.2.2.2).length) (cA (bV (cA (c7 (as:=[enc r.2.2.2]) (cA rfl rfl) rfl (by simp[ai,dh]) o) rfl) ?_) rfl) (by lia)) (by rw[fW];lia) λi _=>?_
 ·show some (PV.int ((bU (lv r.2.2.2)).length:Int))=_;rw[eJ];rfl
 ·rw[YJ];show _=some (some (pL (x,r.2.1+(i:Int)*1)),H);rw[Int.mul_one];exact e1 (EW:=[none,some (iN i),some (.int r.2.1),some (NH x (fq d) r.1 a)]) (h1:=H) rfl (tU (ps:=[.str x,.int (r.2.1+(i:Int))]) (cA (b2 rfl rfl rfl) (cA (b2 rfl rfl rfl) rfl)) (by simp))
end
theorem OI(h:List aw)(s:Sh):kq false h oP (.lst (bU (lv s)))=some (.bl ((lv s).any kf)):=by
 have hd:=oN (rV s);have e:=toT_encs h (lv s) gi (by rw[hd];decide)
 have a:Ks h oP (bU (lv s))=some ((lv s).any kf):=by
  unfold Ks;rw[e,show toT h gi oP=some (.aq [.str "own"])from rfl,<-Ak]
  rfl
 show(Ks h oP (bU (lv s))).map _=_;rw[a];rfl
section
variable {m:Md} {most:Nat} {H:List aw}
theorem Du(h:List aw)(d:Kn):kq true h (.str (kw d)) (.aq [.str "lent",.str "sole"])=some (.bl (!fq d)):=by
 cases d with
 | ow s=>cases s<;>kernel_rfl
 | ho b s=>cases b<;>kernel_rfl
theorem AH(c:H[0]?=some C)(p:PV):(((0:Nat)==0)&&(H.isEmpty || ai [.ref 0,p]))=false:=by
 cases H with
 | nil=>cases c
 | cons a b=>rfl
theorem Dv(k:Nat)(hk:4<=k)(h:cY m most)(b:H[0]?=some (qT m)){x:Str}{s:Sh}(a:(x,Kn.ow s)∈m.ks):run txt (k+3) "_law_touched" [.ref 0,.aq [.str x,.bl false,.aq [],.bM]] H=some (.ok (.lst ((Gn x 0 (sz s)).map pL)),H) :=
 ny k hk b (s:=⟨x,.ow s,Al s,.bM⟩) ⟨a,(h.ks.good _ a).1.1,gR s,.bM⟩ rfl
theorem Dw(k:Nat)(hk:5<=k)(h:cY m most)(j:H[0]?=some (qT m))(R:Option PV):∀(a:List Rk) (acc:List (Str×Int)) (f c:Option PV),(∀q∈a,q∈m.ks)->acc.length+3*a.length<=1000 ->
  ∃g i,c9 (aW 3) (jV (run txt (k+3))) (a.map iE) ⟨[some (.ref 0),R,some (.lst (acc.map pL)),f,c],H⟩=some (.ok .nx,⟨[some (.ref 0),R,some (.lst ((acc++a.flatMap O9).map pL)),g,i],H⟩)
 | [],acc,f,c,_,_=>⟨f,c,by simp;rfl⟩
 | q::a,acc,f,c,u,y=>by
  rw[aN]at y;have p:=u q aM;have v:=h.ks.good q p;obtain⟨x,d⟩:=q;have go:∀l:List (Str×Int),O9 (x,d)=l->l.length<=3->Ev (jV (run txt (k+3))) ⟨[some (.ref 0),R,some (.lst (acc.map pL)),some (.str x),c],H⟩ .nx ⟨[some (.ref 0),R,some (.lst ((acc++l).map pL)),some (.str x),some (encK d)],H⟩->∃g i,c9 (aW 3) (jV (run txt (k+3))) (((x,d)::a).map iE) ⟨[some (.ref 0),R,some (.lst (acc.map pL)),f,c],H⟩=some (.ok .nx,⟨[some (.ref 0),R,some (.lst ((acc++((x,d)::a).flatMap O9).map pL)),g,i],H⟩):=λl e B C=>by
   obtain⟨g,i,z⟩:=Dw k hk h j R a (acc++l) (some (.str x)) (some (encK d)) (λr D=>u r (aK _ D)) (by rw[aX];lia)
   refine⟨g,i,?_⟩;rw[gS,e,<-b7];exact fC rfl C z
  have t:Ek (op2 bO (rd 0) (rd 3)) ⟨[some (.ref 0),R,some (.lst (acc.map pL)),some (.str x),c],H⟩ (encK d):=b2 rfl rfl (OH j p);have w:=λs:cL=>λe:Ev (rd 4) s (encK d) s=>(bT (b2 (b2 e rfl (j0 _ d)) rfl (Du _ d)):Ev Qq s (!fq d) s)
  cases d with
  | ho b s =>
   refine go [] rfl (by simp) ?_
   rw[eG];exact sq (aS t rfl) (iF (iF (w _ rfl) rfl) rfl)
  | ow s =>
   have E:=v.1.1;have I:(lv s).length<=3:=v.2;have J:=jz s (k+2) (by have:=E.2;simp only[bQ]at this;lia) (by lia)
   have o:Ek (eH Qq (toB (op2 (kq false) (mX .aq (ay (kS "own") (bg []))) (bnd Qk (bJ 0 1 (run txt (k+3) "_law_leaves"))))) (bg false)) ⟨[some (.ref 0),R,some (.lst (acc.map pL)),some (.str x),some (enc s)],H⟩ ((lv s).any kf) :=
    iT (w _ rfl) (bT (b2 rfl (c7 (as:=[enc s]) (cA rfl rfl) rfl (by simp[ai,dh]) J) (OI _ s)))
   cases ho:(lv s).any kf with
   | false =>
    rw[ho]at o;refine go [] (by show(if NJ s=true then _ else _)=_;unfold NJ;rw[ho];rfl) (by simp) ?_
    rw[eG];exact sq (aS t rfl) (iF o rfl)
   | true =>
    rw[ho]at o;have hw:=Dv k (by lia) h j p
    have B:(Gn x 0 (sz s)).length=(lv s).length:=by unfold Gn;rw[ao,fW];rfl
    refine go (Gn x 0 (sz s)) (by show(if NJ s=true then _ else _)=_;unfold NJ;rw[ho];rfl) (by lia) ?_
    refine sq (aS t rfl) (iT o (aS (b2 rfl (O4 (as:=[.ref 0,.aq [.str x,.bl false,.aq [],.bM]]) (cA rfl (cA rfl rfl)) rfl (AH j _) hw) ?_) rfl));rw[cf];exact aL (by rw[ao,ao];lia)
end
section
variable {m:Md} {most:Nat} {H:List aw}
theorem UU{ks:List Rk}{a:PV}(h:vZ ks a):noRef a=true:=by
 cases h<;>rfl
theorem Gp(k:Nat)(hk:5<=k)(h:cY m most)(d:H[0]?=some (qT m)){r:Ro}{C:Cs}{M:Nat}(ok:vb C m.ks M r):run txt (k+4) "_law_emptied" [.ref 0,cg m.fn r] H=some (.ok (.lst ((UO r).map pL)),H):=by
 have f:∀(R:PV) (w:Str),(∀h,bO h R (.int 0)=some (.str w))->kq false H (.str w) (.aq [.str "move",.str "drop"])=some (.bl false)->L8 H (.str w) (.str "call")=some (.bl true)->run txt (k+4) "_law_emptied" [.ref 0,R] H=some (.ok (.lst []),H):=λR w c g i=>by
  rw[jW];exact gO (vL:=[some (.ref 0),some R,none,none,none]) (sq (iF (bT (b2 (b2 rfl rfl (c _)) rfl g)) rfl) (nz (iT (bT (b2 (b2 rfl rfl (c _)) rfl i)) (rS (p:=.lst []) rfl))))
 have a:∀(R:PV) (w:Str) (s:Sp),cO m.ks s->(∀h,bO h R (.int 0)=some (.str w))->(∀h,bO h R (.int (-1))=some (bH s))->kq false H (.str w) (.aq [.str "move",.str "drop"])=some (.bl true)->run txt (k+4) "_law_emptied" [.ref 0,R] H=some (.ok (.lst ((UN s).map pL)),H):=λR w s l c g i=>by
  rw[jW];exact gO (vL:=[some (.ref 0),some R,none,none,none]) (nz (iT (bT (b2 (b2 rfl rfl (c _)) rfl i)) (rS (O4 (s1:=⟨[some (.ref 0),some R,none,none,none],H⟩) (as:=[.ref 0,bH s]) (cA rfl (cA (b2 rfl rfl (g _)) rfl)) rfl (AH d _) (ny (k) (by lia) d l (UU l.at_))))))
 cases r with
 | nk t s=>exact a _ _ s ok.2.1 (λ_=>rfl) (λ_=>rfl) (by kernel_rfl)
 | drop s=>exact a _ _ s ok.1 (λ_=>rfl) (λ_=>rfl) (by kernel_rfl)
 | call u j q =>
  rw[jW];obtain⟨y,B,e⟩:=Dw k hk h d (some (cg m.fn (.call u j q))) q [] none none ok.2.2.2.1 (by have:=ok.2.2.2.2.1;simp;lia)
  rw[fE]at e;exact gO (sq (iF (bT (b2 (b2 rfl rfl rfl) rfl (by kernel_rfl))) rfl) (sq (iF (bT (b2 (b2 rfl rfl rfl) rfl (by kernel_rfl))) rfl) (sq (aS (p:=.lst []) rfl rfl) (sq (fS (sV (b2 rfl rfl rfl) rfl) e) (rS rfl)))))
 | put v s o=>cases v<;>exact f _ _ (λ_=>rfl) (by kernel_rfl) (by kernel_rfl)
 | nu x b s=>cases b<;>exact f _ _ (λ_=>rfl) (by kernel_rfl) (by kernel_rfl)
 | _=>exact f _ _ (λ_=>rfl) (by kernel_rfl) (by kernel_rfl)
theorem Ko(k:Nat)(hk:5<=k)(h:cY m most)(B:H[0]?=some (qT m)){r:Ro}{C:Cs}{M:Nat}(ok:vb C m.ks M r):run txt (k+4) "_law_filled" [.ref 0,cg m.fn r] H=some (.ok (.lst ((Zn r).map pL)),H):=by
 have L:∀(R:PV) (w x:Str),(∀h,bO h R (.int 0)=some (.str w))->(∀h,bO h R (.int 1)=some (.str x))->kq false H (.str w) (.aq [.str "lend",.str "sole"])=some (.bl true)->run txt (k+4) "_law_filled" [.ref 0,R] H=some (.ok (.lst [pL (x,0)]),H):=λR w x c f u=>by
  rw[lr];exact gO (vL:=[some (.ref 0),some R]) (nz (iT (bT (b2 (b2 rfl rfl (c _)) rfl u)) (rS (lS (cA (tU (ps:=[.str x,.int 0]) (cA (b2 rfl rfl (f _)) (cA rfl rfl)) (by simp)) rfl) (by simp)))))
 have i:∀(R:PV) (w:Str) (l:List (Str×Int)),(∀h,bO h R (.int 0)=some (.str w))->kq false H (.str w) (.aq [.str "lend",.str "sole"])=some (.bl false)->Ek Q4 ⟨[some (.ref 0),some R],H⟩ false->∀b:Bool,Ek (eH (toB (op2 (kq true) Qw (mX .aq (ay (kS "put") (ay (kS "set") (ay (kS "fill") (ay (kS "copy") (ay (kS "move") (bg []))))))))) (bg true) (eH (iu (op2 bO Q2 (kI 1))) (bg true) (toB (op2 Me (op2 bO Q2 (kI 3)) (bg (.bM)))))) ⟨[some (.ref 0),some R],H⟩ b->(if b=true then l=[]else ∃s,cO m.ks s/\(∀h,bO h R (.int 1)=some (bH s))/\l=UN s)->run txt (k+4) "_law_filled" [.ref 0,R] H=some (.ok (.lst (l.map pL)),H):=λR w l c f u b y D=>by
  rw[lr];refine gO (vL:=[some (.ref 0),some R]) (sq (iF (s1:=⟨[some (.ref 0),some R],H⟩) (bT (b2 (b2 rfl rfl (c _)) rfl f)) rfl) (sq (iF u rfl) ?_));cases b with
  | true=>cases(D:l=[]);exact nz (iT y (rS (p:=.lst []) rfl))
  | false =>
   obtain⟨s,E,e,rfl⟩:=D;exact sq (iF y rfl) (rS (O4 (s1:=⟨[some (.ref 0),some R],H⟩) (as:=[.ref 0,bH s]) (cA rfl (cA (b2 rfl rfl (e _)) rfl)) rfl (AH B _) (ny k (by lia) B E (UU E.at_))))
 have Q:∀(R:PV) (w:Str),(∀h,bO h R (.int 0)=some (.str w))->jB H (.str w) (.str "call")=some (.bl false)->Ek Q4 ⟨[some (.ref 0),some R],H⟩ false:=λR w c f=>iF (bT (b2 (b2 rfl rfl (c _)) rfl f)) rfl
 /- a row with a target -/
 have I:∀(R:PV) (w:Str) (s:Sp),cO m.ks s->(∀h,bO h R (.int 0)=some (.str w))->(∀h,bO h R (.int 1)=some (bH s))->kq false H (.str w) (.aq [.str "lend",.str "sole"])=some (.bl false)->jB H (.str w) (.str "call")=some (.bl false)->kq true H (.str w) (.aq [.str "put",.str "set",.str "fill",.str "copy",.str "move"])=some (.bl false)->run txt (k+4) "_law_filled" [.ref 0,R] H=some (.ok (.lst ((S5 s).map pL)),H):=λR w s E c f u y D=>by
  refine i R w _ c u (Q R w c y) (fq s.d || !ue s.a) (iF (bT (b2 (b2 rfl rfl (c _)) rfl D)) (orX (tB (b2 (b2 rfl rfl (f _)) rfl rfl)) (bT (b2 (b2 (b2 rfl rfl (f _)) rfl rfl) rfl rfl)))) ?_;unfold S5;cases hh:fq s.d<;>cases hn:ue s.a<;>first | rfl | exact⟨s,E,f,rfl⟩
 have T:∀(R:PV) (w:Str),(∀h,bO h R (.int 0)=some (.str w))->kq false H (.str w) (.aq [.str "lend",.str "sole"])=some (.bl false)->Ek Q4 ⟨[some (.ref 0),some R],H⟩ false->kq true H (.str w) (.aq [.str "put",.str "set",.str "fill",.str "copy",.str "move"])=some (.bl true)->run txt (k+4) "_law_filled" [.ref 0,R] H=some (.ok (.lst []),H):=λR w c f u y =>
  i R w [] c f u true (iT (bT (b2 (b2 rfl rfl (c _)) rfl y)) rfl) rfl
 cases r with
 | put Y s o=>cases Y<;>exact I _ _ s ok.1 (λ_=>rfl) (λ_=>rfl) (by kernel_rfl) (by kernel_rfl) (by kernel_rfl)
 | set s g a b=>exact I _ _ s ok.1 (λ_=>rfl) (λ_=>rfl) (by kernel_rfl) (by kernel_rfl) (by kernel_rfl)
 | wc t s=>exact I _ _ t ok.1 (λ_=>rfl) (λ_=>rfl) (by kernel_rfl) (by kernel_rfl) (by kernel_rfl)
 | nk t s=>exact I _ _ t ok.1 (λ_=>rfl) (λ_=>rfl) (by kernel_rfl) (by kernel_rfl) (by kernel_rfl)
 | nu x b s=>cases b<;>exact L _ _ x (λ_=>rfl) (λ_=>rfl) (by kernel_rfl)
 | call Z j J =>
  cases Z with
  | none=>exact T _ _ (λ_=>rfl) (by kernel_rfl) (iT (bT (b2 (b2 rfl rfl rfl) rfl (by kernel_rfl))) (bT (b2 (b2 rfl rfl rfl) rfl (by kernel_rfl)))) (by kernel_rfl)
  | some q =>
   have N:=ok.2.2.2.2.2 q rfl;have v:=h.ks.ne q N;obtain⟨x,d⟩:=q;have v:L8 H (.str x) (.str "")=some (.bl true):=by
    show some (PV.bl (!(x==Str.ofString "")))=_;rw[v];rfl
   have X:=OH B N;rw[lr];refine gO (vL:=[some (.ref 0),some (cg m.fn (.call (some (x,d)) j J))]) (sq (iF (s1:=⟨[some (.ref 0),some (cg m.fn (.call (some (x,d)) j J))],H⟩) (bT (b2 (b2 rfl rfl rfl) rfl (by kernel_rfl))) rfl) (nz (iT (s1:=⟨[some (.ref 0),some (cg m.fn (.call (some (x,d)) j J))],H⟩) (iT (bT (b2 (b2 rfl rfl rfl) rfl (by kernel_rfl))) (bT (b2 (b2 rfl rfl rfl) rfl v))) ?_)))
   cases d with
   | ho b s=>exact nz (iT (bT (b2 (b2 (b2 rfl (b2 rfl rfl rfl) X) rfl (j0 _ _)) rfl (oU _ _))) (rS (lS (ps:=[pL (x,0)]) (cA (tU (ps:=[.str x,.int 0]) (cA (b2 rfl rfl rfl) (cA rfl rfl)) (by simp)) rfl) (by simp))))
   | ow s=>exact sq (iF (bT (b2 (b2 (b2 rfl (b2 rfl rfl rfl) X) rfl (j0 _ _)) rfl (oU _ _))) rfl) (rS (O4 (s1:=⟨[some (.ref 0),some (cg m.fn (.call (some (x,.ow s)) j J))],H⟩) (as:=[.ref 0,.aq [.str x,.bl false,.aq [],.bM]]) (cA rfl (cA (tU (ps:=[.str x,.bl false,.aq [],.bM]) (cA (b2 rfl rfl rfl) (cA rfl (cA rfl (cA rfl rfl)))) (by simp)) rfl)) rfl (AH B _) (Dv k (by lia) h B N)))
 | _=>exact T _ _ (λ_=>rfl) (by kernel_rfl) (Q _ _ (λ_=>rfl) (by kernel_rfl)) (by kernel_rfl)
end
def lnx(j:Nat):Ro->List Nat
 | .jA _=>[]
 | .go n=>[n]
 | .Ge _ _ n=>[j+1,n]
 | _=>[j+1]
theorem YX{j n:Nat}{r:Ro}(h:n∈lnx j r):n∈wj j r:=by
 cases r with
 | Ge a i k =>
  show n∈wa (j+1) k;unfold wa;have h:n=j+1\/n=k:=by have h:n∈[j+1,k]:=h;simpa using h
  split
  ·rcases h with rfl | rfl<;>simp
  ·split
   ·rcases h with rfl | rfl<;>simp
   ·have:j+1=k:=by lia
    rcases h with rfl | rfl<;>simp[this]
 | _=>exact h
section
variable {m:Md} {most:Nat} {H:List aw}
theorem OJ(k:Nat){j:Nat}{r:Ro}(q:m.L[j]?=some r):Gives (run txt (k+1) "_law_nexts" [.aq m.rows,iN j] []) (.lst ((lnx j r).map iN)):=by
 rw[gG];have d:=Gh q ([]:List aw);have h:fj [] (iN j) (.int 1)=some (iN (j+1)):=by show some (PV.int ((j:Int)+1))=_;rfl
 have e:=fun(w:Str) (b:Bool) (z:jB [] (.str (SO r)) (.str w)=some (.bl b))=>(bT (b2 (b2 (b2 rfl rfl d) rfl (UI m.fn [] r)) rfl z):Ek (toB (op2 jB (op2 bO Qe (kI 0)) (bg (.str w)))) (S0 [some (.aq m.rows),some (iN j)]) b)
 have c:=e "give";have f:=e "go";have l:=e "if"
 have g:jB [] (.str (SO r)) (.str "give")=some (.bl false)->jB [] (.str (SO r)) (.str "go")=some (.bl false)->jB [] (.str (SO r)) (.str "if")=some (.bl false)->Gives (run txt (k+1) "_law_nexts" [.aq m.rows,iN j] []) (.lst [iN (j+1)]):=λt u v=>by
  rw[gG];exact gV (sq (iF (c _ t) rfl) (sq (iF (f _ u) rfl) (sq (iF (l _ v) rfl) (rS (lS (ps:=[iN (j+1)]) (cA (b2 rfl rfl h) rfl) (by simp)))))) rfl
 rw[<-gG];cases r with
 | jA z=>rw[gG];exact gV (nz (iT (c true (by kernel_rfl)) (rS (p:=.lst []) rfl))) rfl
 | go n=>rw[gG];exact gV (sq (iF (c false (by kernel_rfl)) rfl) (nz (iT (f true (by kernel_rfl)) (rS (lS (ps:=[iN n]) (cA (b2 (b2 rfl rfl d) rfl rfl) rfl) (by simp)))))) rfl
 | Ge a i n=>rw[gG];exact gV (sq (iF (c false (by kernel_rfl)) rfl) (sq (iF (f false (by kernel_rfl)) rfl) (nz (iT (l true (by kernel_rfl)) (rS (lS (ps:=[iN (j+1),iN n]) (cA (b2 rfl rfl h) (cA (b2 (b2 rfl rfl d) rfl rfl) rfl)) (by simp))))))) rfl
 | put y s o=>cases y<;>exact g (by kernel_rfl) (by kernel_rfl) (by kernel_rfl)
 | nu x b s=>cases b<;>exact g (by kernel_rfl) (by kernel_rfl) (by kernel_rfl)
 | _=>exact g (by kernel_rfl) (by kernel_rfl) (by kernel_rfl)
def Wy(m:Md):Nat->List Nat->Prop
 | _,[]=>True
 | a,b::l=>b∈m.nx a/\Wy m b l
theorem acL{j:Nat}{r:Ro}(a:m.L[j]?=some r):m.nx j=wj j r:=by unfold Md.nx;rw[a]
theorem Ta(l:List Nat)(c:Nat)(H:List aw):bO (⟨.lst,(l++[c]).map iN⟩::H) (.ref 0) (.int (-1))=some (iN c):=by
 show L2.lF ((l++[c]).map iN) (-1)=_;unfold L2.lF L2.OX;rw[ao,aX,if_neg (by decide),if_pos (by simp;lia),show(-1+((l.length+[c].length:Nat):Int)).toNat=l.length by simp;lia,cf]
 show((l.map iN)++[iN c])[l.length]?=_;rw[mB (by simp)]
 simp
theorem Tb(k:Nat)(h:cY m most){c:Nat}{r:Ro}(p:m.L[c]?=some r)(acc:List Nat)(I:acc.length<=1000)(C:PV)(cell:Int)(o:Option PV):(∃n f,n∈m.nx c/\Ev (oJ (run txt (k+1))) ⟨[some (.aq m.rows),some C,some (.ref 0),some (.int cell),o],[⟨.lst,(acc++[c]).map iN⟩]⟩ .nx ⟨[some (.aq m.rows),some C,some (.ref 0),some (.int cell),f],[⟨.lst,(acc++[c]++[n]).map iN⟩]⟩)\/∃f,Ev (oJ (run txt (k+1))) ⟨[some (.aq m.rows),some C,some (.ref 0),some (.int cell),o],[⟨.lst,(acc++[c]).map iN⟩]⟩ (.rt (.ref 0)) ⟨[some (.aq m.rows),some C,some (.ref 0),some (.int cell),f],[⟨.lst,(acc++[c]).map iN⟩]⟩:=by
 have g:=OJ k p;have x:=sg h;have t:=lM k cell (i:=3) (by decide)
 have d:Ek (bnd (ay (rd 0) (ay (op2 bO (rd 2) (za (kI 1))) (bg []))) (bJ 0 2 (run txt (k+1) "_law_nexts"))) ⟨[some (.aq m.rows),some C,some (.ref 0),some (.int cell),o],[⟨.lst,(acc++[c]).map iN⟩]⟩ (.lst ((lnx c r).map iN)):=c7 (as:=[.aq m.rows,iN c]) (cA rfl (cA (b2 rfl rfl (Ta acc c [])) rfl)) rfl (by simp[ai,noRef,x,iN]) g
 have lt:∀l:List Nat,lnx c r=l->(l=[]\/∃a,l=[a])\/∃a b,l=[a,b]:=λl e=>by
  subst e;cases r<;>first | exact .inl (.inl rfl) | exact .inl (.inr ⟨_,rfl⟩) | exact .inr ⟨_,_,rfl⟩
 have u:∀n,n∈lnx c r->n∈m.nx c:=λn g=>by rw[acL p];exact YX g
 have v:∀(n:Nat) (j:List (Option PV)),kr (iH zi) (.ref 0) [iN n] ⟨j,[⟨.lst,(acc++[c]).map iN⟩]⟩=some (.ok .bM,⟨j,[⟨.lst,(acc++[c]++[n]).map iN⟩]⟩):=λn j=>by
  rw[cf (l₁:=acc++[c])];exact aC rfl (by rw[ao,aX];simp;lia)
 generalize J:F6 cell 3=y at t
 have w:∀(j:List (Option PV)) (H:List aw) (L:PV) (q:Int),0<q->gX H [L]=some (.int q)->Ek (op2 gB (op2 iL (bnd (ay (rd 3) (ay (kI 3) (bg []))) (bJ 0 2 (run txt (k+1) "_law_mixed"))) (kI 5)) (gL gX Qk)) ⟨[some (.aq m.rows),some C,some (.ref 0),some (.int cell),some L],H⟩ (.int (y/5%q)):=λj H L q B D=>by
  exact b2 (b2 (c7 (as:=[.int cell,.int 3]) (cA rfl (cA rfl rfl)) rfl (by simp[ai,noRef]) t) rfl (xB (by decide))) (bV (cA rfl rfl) D) (da B)
 rcases lt _ rfl with(e | ⟨a,e⟩) | ⟨a,b,e⟩
 ·rw[e]at d;exact .inr ⟨some (.lst []),sq (aS d rfl) (nz (iT (bT (b2 rfl rfl (by kernel_rfl))) (rS rfl)))⟩
 ·rw[e]at d;refine .inl ⟨a,some (.lst [iN a]),u a (by rw[e];simp),sq (aS d rfl) (sq (iF (bT (b2 rfl rfl (by kernel_rfl))) rfl) (dS (AO rfl rfl (cA (b2 rfl (w [] _ (.lst [iN a]) 1 (by decide) rfl) ?_) rfl) (v a _))))⟩
  rw[Int.emod_one];rfl
 ·rw[e]at d;have go:∀n:Nat,n∈[a,b]->(∀H,bO H (.lst [iN a,iN b]) (.int (y/5%2))=some (iN n))->∃n f,n∈m.nx c/\Ev (oJ (run txt (k+1))) ⟨[some (.aq m.rows),some C,some (.ref 0),some (.int cell),o],[⟨.lst,(acc++[c]).map iN⟩]⟩ .nx ⟨[some (.aq m.rows),some C,some (.ref 0),some (.int cell),f],[⟨.lst,(acc++[c]++[n]).map iN⟩]⟩:=λn g E=>⟨n,some (.lst [iN a,iN b]),u n (by rw[e];exact g),sq (aS d rfl) (sq (iF (bT (b2 rfl rfl (by kernel_rfl))) rfl) (dS (AO rfl rfl (cA (b2 rfl (w [] _ (.lst [iN a,iN b]) 2 (by decide) rfl) (E _)) rfl) (v n _))))⟩
  rcases Int.emod_two_eq (y/5)with z | z
  ·exact .inl (go a (by simp) λ_=>by rw[z];rfl)
  ·exact .inl (go b (by simp) λ_=>by rw[z];rfl)
end
section
variable {m:Md} {most:Nat} {H:List aw}
theorem OK(h:cY m most){c n:Nat}{r:Ro}(a:m.L[c]?=some r)(b:n∈m.nx c):∃d,m.L[n]?=some d:=by
 rw[acL a]at b;exact⟨_,b6 ((Om h a).2 n b)⟩
theorem Dx(k:Nat)(h:cY m most)(C:PV):∀(cs:List Int) (c:Nat) (r:Ro) (acc:List Nat) (b a:Option PV),m.L[c]?=some r->acc.length+cs.length<=1000 ->
  ∃l f d g,l.length<=cs.length/\Wy m c l/\(f=.nx\/f=.rt (.ref 0))/\c9 (aW 3) (oJ (run txt (k+1))) (cs.map .int) ⟨[some (.aq m.rows),some C,some (.ref 0),b,a],[⟨.lst,(acc++[c]).map iN⟩]⟩=some (.ok f,⟨[some (.aq m.rows),some C,some (.ref 0),d,g],[⟨.lst,(acc++c::l).map iN⟩]⟩)
 | [],c,r,acc,b,a,_,_=>⟨[],.nx,b,a,dn _,trivial,.inl rfl,rfl⟩
 | i::cs,c,r,acc,b,a,o,q=>by
  rw[aN]at q;rcases Tb k h o acc (by lia) C i a with⟨n,j,p,e⟩ | ⟨j,e⟩
  ·obtain⟨t,u⟩:=OK h o p;obtain⟨l,f,d,g,v,w,x,z⟩:=Dx k h C cs n t (acc++[c]) (some (.int i)) j u (by rw[aX];simp;lia)
   refine⟨n::l,f,d,g,Nat.succ_le_succ v,⟨p,w⟩,x,?_⟩;rw[show acc++c::n::l=acc++[c]++n::l by simp]
   exact fC rfl e z
  ·exact⟨[],.rt (.ref 0),some (.int i),j,dn _,trivial,.inr rfl,fR rfl e⟩
theorem YY(k:Nat)(h:cY m most)(cs:List Int)(d:cs.length<=60):∃l,l.length<=60/\Wy m 0 l/\Gives (run txt (k+2) "_law_way" [.aq m.rows,.lst (cs.map .int)] []) (.lst ((0::l).map iN)):=by
 have a:∃r,m.L[0]?=some r:=⟨_,b6 (vf h).2⟩
 obtain⟨r,b⟩:=a;obtain⟨l,f,e,g,i,w,c,z⟩:=Dx k h (.lst (cs.map .int)) cs 0 r [] none none b (by simp;lia)
 refine⟨l,by lia,w,?_⟩
 rw[NC];have nr:ai ((0::l).map iN)=true:=jZ _;rcases c with rfl | rfl
 ·exact⟨.ref 0,_,gO (sq rfl (sq (fS (sV rfl rfl) z) (rS rfl))),uW rfl nr⟩
 ·exact⟨.ref 0,_,gO (sq rfl (nz (fS (sV rfl rfl) z))),uW rfl nr⟩
end
theorem AI(c:CT)(A:PV):∀(as:List (Nat×cP)) (i:Nat) (kvs:List (bE×PV)) (f g:Option PV),kvs.length<=i->i+as.length<=90000 ->
  ∃b d,c9 Qs (qN c) (fM i (as.map eN)) ⟨[some A,some (.ref 0),f,g],[dC kvs]⟩=some (.ok .nx,⟨[some A,some (.ref 0),b,d],[dC (iS as i kvs)]⟩)
 | [],i,kvs,f,g,_,_=>⟨f,g,rfl⟩
 | (j,a)::as,i,kvs,f,g,l,k=>by
  rw[aN]at k;obtain⟨p,hp⟩:=NS (kvs:=kvs) (by lia)
  have h:Ev (qN c) ⟨[some A,some (.ref 0),some (.int (i:Int)),some (jX j a)],[dC kvs]⟩ .nx ⟨[some A,some (.ref 0),some (.int (i:Int)),some (jX j a)],[match cJ kvs (.inl (j:Int))with | some _=>dC kvs | none=>dC (kvs++[(.inl (j:Int),.int (i:Int))])]⟩:=dS (mtD rfl rfl (cA (b2 rfl rfl rfl) (cA rfl rfl)) hp)
  cases e:cJ kvs (.inl (j:Int))with
  | some v =>
   rw[e]at h;obtain⟨b,d,z⟩:=AI c A as (i+1) kvs (some (.int (i:Int))) (some (jX j a)) (by lia) (by lia)
   rw[iS,e];exact⟨b,d,fC rfl h z⟩
  | none =>
   rw[e]at h;obtain⟨b,d,z⟩:=AI c A as (i+1) (kvs++[(.inl (j:Int),.int (i:Int))]) (some (.int (i:Int))) (some (jX j a)) (by rw[aX];simp;lia) (by lia)
   rw[iS,e];exact⟨b,d,fC rfl h z⟩
section
variable {m:Md} {most:Nat} {H:List aw}
def SV(m:Md):PV:=.nd (dC (iS m.as 0 [])).k (dC (iS m.as 0 [])).ps
theorem OL{N:Nat}:∀kvs:List (bE×PV),Yg N kvs->ai (kvs.map (·.2))=true
 | [],_=>rfl
 | q::l,h=>by
  obtain⟨n,e,_⟩:=h q aM;rw[aO,ai,e,OL l λr a=>h r (aK _ a)]
  rfl
theorem acM(h:cY m most)(a:most<=20):ai (dC (iS m.as 0 [])).ps=true:=by
 have:=Ay h;exact OL _ (iU (run txt 0) .bM .bM .bM m.as 0 [] none none (λ_ z=>nomatch z) (by simp) (by lia)).2.1
theorem Kp(k:Nat)(h:cY m most)(a:most<=20):Gives (run txt (k+1) "_law_starts" [.lst (m.as.map eN)] []) (SV m):=by
 have b:=Ay h;obtain⟨c,d,z⟩:=AI (run txt k) (.lst (m.as.map eN)) m.as 0 [] none none (by simp) (by lia)
 rw[CL];refine⟨.ref 0,_,gO (sq rfl (sq (fS (sG (eV rfl rfl)) z) (rS rfl))),?_⟩;have nr:=acM h a;unfold ou;rw[show([dC (iS m.as 0 [])]:List aw).isEmpty=false from rfl,if_neg dv]
 unfold wY;rw[if_neg (by simp[noRef])]
 show(if live (dC (iS m.as 0 []))=true then(dj (wY [dC (iS m.as 0 [])] 3) (dC (iS m.as 0 [])).ps).map (PV.nd _)else none)=_
 rw[if_pos (show live (dC (iS m.as 0 []))=true from rfl),HB _ nr]
 rfl
theorem acN{j:Nat}{r:Ro}(a:m.L[j]?=some r)(H:List aw):bO H (SV m) (iN j)=some (iN (si m j)):=by
 obtain⟨_,e⟩:=Dr a;show gM [.inl (j:Int)] ((iS m.as 0 []).map λq=>[q.1]) ((iS m.as 0 []).map (·.2))=_
 rw[oR,e];rfl
end
abbrev kL(x:Str)(l:Int):List bE:=[.inr x,.inl l]
def vm(P:Str->Int->Prop)(n:Nat)(c:aw):Prop:=∃ks a,c=⟨.fJ true ks,a⟩/\ks.length=a.length/\ks.length<=n/\ks.Nodup/\∀k∈ks,∃x l,k=kL x l/\P x l
section
variable {P Q:Str->Int->Prop} {n:Nat} {c A B:aw} {x:Str} {l:Int}
theorem vm.imp(h:vm P n c)(a:∀x l,P x l->Q x l)(b:n<=m):vm Q m c:=by
 obtain⟨ks,d,f,g,i,j,o⟩:=h;exact⟨ks,d,f,g,bA i b,j,λk hk=>by obtain⟨x,l,e,p⟩:=o k hk;exact⟨x,l,e,a x l p⟩⟩
theorem Dy(k:List bE)(q:PV):∀(ks:List (List bE)) (ps:List PV),(zb k q ks ps).length=ps.length
 | [],ps=>by rw[uf]
 | _::_,[]=>rfl
 | _::ks,_::ps=>dq (· + 1) (Dy k q ks ps)
theorem sj{k:List bE}{ks:List (List bE)}:kn k ks=true↔k∈ks:=by
 unfold kn;rw[List.any_eq_true];constructor
 ·rintro⟨j,a,b⟩;rw[<-dw b];exact a
 ·exact λh=>⟨k,h,dE rfl⟩
theorem OM(h:vm P n c)(o:P x l)(q:n<4000000):∃e,vm P (n+1) e/\∀d A B,zw (.ref 2) (pL (x,l)) (.bl true) ⟨d,[A,B,c]⟩=some ⟨d,[A,B,e]⟩:=by
 obtain⟨ks,f,rfl,g,r,i,j⟩:=h;refine⟨m4 true (kL x l) (.bl true) ks f,?_,λd A B=>?_⟩
 ·unfold m4;by_cases z:kn (kL x l) ks=true
  ·rw[if_pos z];exact⟨ks,_,rfl,by rw[Dy];exact g,by lia,i,j⟩
  ·rw[if_neg z];refine⟨_,_,rfl,by rw[aX,aX,g];rfl,by rw[aX];simp;lia,?_,λk hk=>?_⟩
   ·rw[pE];refine⟨i,by simp,λa p b m=>?_⟩
    rw[aV]at m;subst m
    rintro rfl
    exact z (sj.mpr p)
   ·rcases bI.mp hk with hk | hk
    ·exact j k hk
    ·exact⟨x,l,aV.mp hk,o⟩
 ·show(if ks.length<gu then some (cL.mk d ([A,B,_].set 2 (m4 true (kL x l) (.bl true) ks f)))else none)=_
  rw[if_pos (show ks.length<gu by have:gu=4000000:=rfl;lia)]
  rfl
theorem acO(h:vm P n c):∃b,(∀A B,kq false [A,B,c] (pL (x,l)) (.ref 2)=some (.bl b))/\(b=false->vm (λy k=>P y k/\(y,k)≠(x,l)) n c)/\(b=true->∃o p,vm (λy k=>P y k/\(y,k)≠(x,l)) n o/\∀f A B,kr MH (.ref 2) [pL (x,l)] ⟨f,[A,B,c]⟩=some (.ok p,⟨f,[A,B,o]⟩)):=by
 obtain⟨ks,d,rfl,t,u,g,v⟩:=h;refine⟨kn (kL x l) ks,λA B=>?_,λz=>?_,λz=>?_⟩
 ·rfl
 ·refine⟨ks,d,rfl,t,u,g,λk hk=>?_⟩
  obtain⟨y,i,rfl,p⟩:=v k hk;refine⟨y,i,rfl,p,λe=>?_⟩
  cases e;rw[sj.mpr hk]at z;cases z
 ·have C:=sj.mp z;obtain⟨j,w⟩:∃j,ks.findIdx? (λy=>decide (y=kL x l))=some j:=by
   cases e:ks.findIdx? (λy=>decide (y=kL x l))with
   | some j=>exact⟨j,rfl⟩
   | none=>exact absurd (List.findIdx?_eq_none_iff.mp e _ C) (by simp)
  obtain⟨D,m,_⟩:=xQ.mp w;have m:=dw m;obtain⟨p,hp⟩:∃p,d[j]?=some p:=⟨_,b6 (by lia)⟩
  refine⟨⟨.fJ true (ks.eraseIdx j),d.eraseIdx j⟩,p,⟨_,_,rfl,by rw[List.length_eraseIdx,List.length_eraseIdx,t],bA (List.length_eraseIdx_le ..) u,g.sublist (List.eraseIdx_sublist ..),λk hk=>?_⟩,λf A B=>?_⟩
  ·obtain⟨y,i,rfl,q⟩:=v k (List.mem_of_mem_eraseIdx hk);refine⟨y,i,rfl,q,λe=>?_⟩
   cases e;obtain⟨a,E,ne,e⟩:=List.mem_eraseIdx_iff_getElem.mp hk;exact ne ((D8 g).mp (e.trans m.symm))
  ·show(((ks.findIdx? λy=>decide (y=kL x l)).bind λj=>(d[j]?).map λp=>((⟨.fJ true (ks.eraseIdx j),d.eraseIdx j⟩:aw),p)).map λr=>(Rs.ok r.2,cL.mk f ([A,B,_].set 2 r.1)))=_
   rw[w,dO,hp];rfl
structure Ln (ρ:Option PV->List (Option PV)):Prop where
 s:∀p x h,aW 13 p ⟨ρ x,h⟩=some ⟨ρ (some p),h⟩
 a:∀x h,Ek (rd 8) ⟨ρ x,h⟩ (.ref 2)
 b:∀p h,Ek (rd 13) ⟨ρ (some p),h⟩ p
variable {ρ:Option PV->List (Option PV)}
theorem ON(f:CT)(N:Ln ρ):∀(d:List (Str×Int)) (n:Nat) (c:aw) (e:Option PV),vm P n c->n+d.length<4000000->(∀q∈d,P q.1 q.2) ->
  ∃g i,vm P (n+d.length) g/\c9 (aW 13) (Hw f) (d.map pL) ⟨ρ e,[A,B,c]⟩=some (.ok .nx,⟨ρ i,[A,B,g]⟩)
 | [],n,c,e,h,_,_=>⟨c,e,h,rfl⟩
 | q::d,n,c,e,h,k,j=>by
  rw[aN]at k ⊢;obtain⟨m,o,p⟩:=OM h (j q aM) (by lia)
  obtain⟨g,i,t,u⟩:=ON f N d (n+1) m (some (pL q)) o (by lia) λr v=>j r (aK _ v)
  refine⟨g,i,t.imp (λ_ _ z=>z) (by lia),fC (N.s _ _ _) ?_ u⟩
  unfold Hw;refine eB rfl (eB (N.a _ _) (eB (N.b _ _) ?_));show(zw (.ref 2) (pL q) (.bl true) _).map _=_;rw[p];rfl
theorem Im(f:CT)(N:Ln ρ):∀(g:List (Str×Int)) (P:Str->Int->Prop) (c:aw) (j:Option PV),vm P n c ->
  ∃d m,vm (λx l=>P x l/\(x,l)∉g) n d/\c9 (aW 13) (Af f) (g.map pL) ⟨ρ j,[A,B,c]⟩=some (.ok .nx,⟨ρ m,[A,B,d]⟩)
 | [],P,c,j,h=>⟨c,j,h.imp (λ_ _ z=>⟨z,eE⟩) (au _),rfl⟩
 | q::g,P,c,j,h=>by
  obtain⟨b,t,u,v⟩:=acO (x:=q.1) (l:=q.2) h;have go:∀i,vm (λy k=>P y k/\(y,k)≠(q.1,q.2)) n i->Ev (Af f) ⟨ρ (some (pL q)),[A,B,c]⟩ .nx ⟨ρ (some (pL q)),[A,B,i]⟩->∃d m,vm (λx l=>P x l/\(x,l)∉q::g) n d/\c9 (aW 13) (Af f) ((q::g).map pL) ⟨ρ j,[A,B,c]⟩=some (.ok .nx,⟨ρ m,[A,B,d]⟩):=λi o r=>by
   obtain⟨d,m,w,C⟩:=Im f N g _ i (some (pL q)) o;refine⟨d,m,w.imp (λx l z=>⟨z.1.1,λD=>?_⟩) (au _),fC (N.s _ _ _) r C⟩
   rcases aU.mp D with e | e
   ·exact z.1.2 e
   ·exact z.2 e
  cases b with
  | false=>exact go c (u rfl) (iF (bT (b2 (N.b _ _) (N.a _ _) (t _ _))) rfl)
  | true =>
   obtain⟨i,p,o,r⟩:=v rfl;have h:=h;obtain⟨ks,E,rfl,_⟩:=h;exact go i o (iT (bT (b2 (N.b _ _) (N.a _ _) (t _ _))) (dS (mtD (N.a _ _) rfl (cA (N.b _ _) rfl) (r _ _ _))))
end
section
variable {P Q:Str->Int->Prop} {A B:aw} {m:Md} {most:Nat}
theorem UW(f:CT)(L K M:Option PV)(x:Str):∀(b:List Nat) (n:Nat) (c:aw) (d:Option PV),vm P n c->n+b.length<4000000->(∀i∈b,P x (i:Int)) ->
  ∃e g,vm P (n+b.length) e/\c9 (aW 5) (mn f) (b.map oS) ⟨[L,some (.ref 2),some (.str x),K,M,d],[A,B,c]⟩=some (.ok .nx,⟨[L,some (.ref 2),some (.str x),K,M,g],[A,B,e]⟩)
 | [],n,c,d,h,_,_=>⟨c,d,h,rfl⟩
 | i::b,n,c,d,h,k,j=>by
  rw[aN]at k ⊢;obtain⟨l,o,p⟩:=OM h (j i aM) (by lia)
  obtain⟨e,g,q,t⟩:=UW f L K M x b (n+1) l (some (iN i)) o (by lia) λr u=>j r (aK _ u)
  refine⟨e,g,q.imp (λ_ _ z=>z) (by lia),?_⟩
  rw[aO,YJ];refine fC (s1:=⟨[L,some (.ref 2),some (.str x),K,M,some (iN i)],[A,B,c]⟩) rfl ?_ t;unfold mn;refine eB rfl (eB rfl (eB (a:=pL (x,(i:Int))) rfl ?_));show(zw (.ref 2) (pL (x,(i:Int))) (.bl true) _).map _=_;rw[p];rfl
theorem Io(k:Nat)(hk:7<=k){ks:List Rk}(K:mx ks)(L:Option PV):∀(ps:List Rk) (n:Nat) (c:aw) (g l e a:Option PV),vm P n c->n+3*ps.length<4000000->(∀q∈ps,q∈ks/\∀i:Nat,i<vk q.2->P q.1 (i:Int)) ->
  ∃o p u v w,vm P (n+3*ps.length) o/\c9 Qs (vX (run txt k)) (ps.map bC) ⟨[L,some (.ref 2),g,l,e,a],[A,B,c]⟩=some (.ok .nx,⟨[L,some (.ref 2),p,u,v,w],[A,B,o]⟩)
 | [],n,c,g,l,e,a,h,_,_=>⟨c,g,l,e,a,h,rfl⟩
 | q::ps,n,c,g,l,e,a,h,H,y=>by
  rw[aN]at H ⊢;obtain⟨C,hp⟩:=y q aM;have hc:=Ie K C;obtain⟨j,rfl⟩:∃j,k=j+1:=⟨k-1,by lia⟩
  obtain⟨I,J,D,M⟩:=UW (A:=A) (B:=B) (run txt (j+1)) L (some (encK q.2)) (some (iN (vk q.2))) q.1 (List.range (vk q.2)) n c a h (by rw[fW];lia) λi N=>hp i (dD.mp N)
  rw[fW]at D;obtain⟨o,p,u,v,w,R,T⟩:=Io (j+1) hk K L ps (n+3) I (some (.str q.1)) (some (encK q.2)) (some (iN (vk q.2))) J (D.imp (λ_ _ z=>z) (by lia)) (by lia) λr X=>y r (aK _ X)
  refine⟨o,p,u,v,w,R.imp (λ_ _ z=>z) (by lia),?_⟩
  refine fC (s1:=⟨[L,some (.ref 2),some (.str q.1),some (encK q.2),e,a],[A,B,c]⟩) rfl ?_ T;have t:Ek Qr ⟨[L,some (.ref 2),some (.str q.1),some (encK q.2),some (.int 1),a],[A,B,c]⟩ (!fq q.2):=bT (b2 (b2 rfl rfl (j0 _ _)) rfl (Du _ _));have Y:Ev (eH Qr (di (gL gX (ay (bnd Q6 (bJ 0 1 (run txt (j+1) "_law_leaves"))) (bg []))) (aW 4)) (bg .nx)) ⟨[L,some (.ref 2),some (.str q.1),some (encK q.2),some (.int 1),a],[A,B,c]⟩ .nx ⟨[L,some (.ref 2),some (.str q.1),some (encK q.2),some (iN (vk q.2)),a],[A,B,c]⟩:=by
   cases f:fq q.2 with
   | true=>rw[f]at t;unfold vk;rw[f];exact iF t rfl
   | false =>
    rw[f]at t;unfold vk;rw[f];obtain⟨x,d⟩:=q;cases d with
    | ho b s=>cases f
    | ow s =>
     have E:=K.good _ C;have hd:=E.1.1.2;have hl:(lv s).length<=3:=E.2;have Z:=jz s j (by simp only[bQ]at hd;lia) (by lia)
     refine iT t (aS (bV (cA (c7 (as:=[enc s]) (cA rfl rfl) rfl (by simp[ai,dh]) Z) rfl) ?_) rfl)
     show some (PV.int ((bU (lv s)).length:Int))=_;rw[eJ];rfl
  exact sq (aS rfl rfl) (sq Y (fS (mw (j:=vk q.2) (cA rfl rfl) (by lia)) M))
theorem Dz(k:Nat)(hk:7<=k)(h:cY m most)(hp:∀q∈m.LT,∀i:Nat,i<vk q.2->P q.1 (i:Int)):∃c,vm P 24 c/\run txt (k+1) "_law_at_first" [.aq (m.LT.map bC)] [A,B]=some (.ok (.ref 2),[A,B,c]):=by
 obtain⟨c,e,f,g,j,a,d⟩:=Io (P:=P) (A:=A) (B:=B) k hk h.ks (some (.aq (m.LT.map bC))) m.LT 0 ⟨.fJ true [],[]⟩ none none none none ⟨[],[],rfl,rfl,by simp,mO,λ_ z=>nomatch z⟩ (by rw[AB];lia) λq b=>⟨xM q b,hp q b⟩
 rw[AB]at a;refine⟨c,a.imp (λ_ _ z=>z) (by lia),?_⟩
 rw[vY];exact gO (sq rfl (sq (fS (sV rfl rfl) d) (rS rfl)))
end
noncomputable def qU(ah:eW):aw:=⟨.fJ true (ah.map (·.1)),ah.map λ_=>.bl true⟩
theorem acP{H:List aw}{j:Nat}{ah:eW}{f:Fe}(a:H[j]?=some (qU ah))(b:kE f∈ah.map (·.1)):kq true H (dk (kE f)) (.ref j)=some (.bl false):=by
 have c:cS H (.ref j)=some (.fJ true (ah.map (·.1)),ah.map λ_=>.bl true):=by
  show(H[j]?).bind _=_;rw[a];rfl
 unfold kq;rw[c];show(iz true (dk (kE f))).map _=_;rw[rX (ks:=kE f) (show 3<1000 by decide)]
 show some (PV.bl (!Fx (ah.map (·.1)) (kE f)))=_;rw[uF.mpr b];rfl
theorem xO(c:CT)(h i j l:Option PV)(m:List (Option PV))(a:aw):∀(b acc:eW) (o:Option PV),((acc++b).map (·.1)).Nodup->(∀t∈b,∃f,t.1=kE f)->(acc++b).length<4000000 ->
  ∃p,c9 (aW 6) (Hv c) (b.map toldP) ⟨h::i::j::l::some (.ref 0)::some (.ref 1)::o::m,[a,qU acc]⟩=some (.ok .nx,⟨h::i::j::l::some (.ref 0)::some (.ref 1)::p::m,[a,qU (acc++b)]⟩)
 | [],acc,o,_,_,_=>⟨o,by rw[eG];rfl⟩
 | t::b,acc,o,q,hk,r=>by
  obtain⟨p,ih⟩:=xO c h i j l m a b (acc++[t]) (some (toldP t)) (by rw[b7];exact q) (λu w=>hk u (aK _ w)) (by rw[b7];exact r)
  refine⟨p,?_⟩;rw[b7]at ih;obtain⟨f,x⟩:=hk t aM;obtain⟨g,d⟩:=t;cases x;refine fC (s1:=⟨h::i::j::l::some (.ref 0)::some (.ref 1)::some (toldP (kE f,d))::m,[a,qU acc]⟩) rfl ?_ ih;unfold Hv;refine eB rfl (eB rfl (eB rfl ?_));show(zw (.ref 1) (dk (kE f)) (.bl true) _).map _=_;have e:∀v,zw (.ref 1) (dk (kE f)) (.bl true) ⟨v,[a,qU acc]⟩=(iz true (dk (kE f))).bind λk=>if(acc.map (·.1)).length<gu then some ⟨v,[a,qU acc].set 1 (m4 true k (.bl true) (acc.map (·.1)) (acc.map λ_=>.bl true))⟩else none:=λ_=>rfl
  rw[e,rX (ks:=kE f) (show 3<1000 by decide)]
  rw[dO];rw[aX,aN]at r;rw[if_pos (show(acc.map (·.1)).length<gu by rw[ao];have:gu=4000000:=rfl;lia)]
  unfold m4;have y:kn (kE f) (acc.map (·.1))=false:=by
   rw[<-Bool.not_eq_true,sj];intro z;rw[cf,pE]at q;exact q.2.2 _ z (kE f) (aE.mpr ⟨(kE f,d),aM,rfl⟩) rfl
  rw[y,if_neg dv];show some (_,cL.mk _ [a,⟨_,_⟩])=_;unfold qU;rw[cf,cf];rfl
theorem fD{fe:Gx PV}{g:Tg}{a:Gx dM}{s s1:cL}{n:Nat}{ks:List (List bE)}{ps:List PV}{vL:List (Option PV)}{h':List aw}(h:Ev fe s (.ref n) s1)(hc:rf s1.h (.ref n)=some (n,⟨.fJ true ks,ps⟩))(e:c9 g a (oq ks) ⟨s1.ρ,s1.h.set n BU⟩=some (.ok .nx,⟨vL,h'⟩))(b:n<h'.length):Ev (RE fe g a) s .nx ⟨vL,h'.set n ⟨.fJ true ks,ps⟩⟩:=eB h (by
 show(rf s1.h (.ref n)).bind _=_;rw[hc];show(c9 g a (oq ks) ⟨s1.ρ,s1.h.set n BU⟩).bind _=_;rw[e];exact if_pos b)
section
variable {m:Md} {most:Nat} {cs:List Nat} {ah:eW}
noncomputable abbrev Pa(S W P F SV:PV)(a b c d e f:Option PV)(h:List aw):cL:=⟨[some S,some W,some P,some F,some (.ref 0),some (.ref 1),a,some SV,some (.ref 2),b,c,d,e,f],h⟩
theorem xP(f:CT)(S W P F:PV)(a b c:Option PV){j:Nat}{r:Ro}(t:m.L[j]?=some r)(d e:aw):∀(ks:List (List bE)) (g i:Option PV),(∀k∈ks,∃x l,k=kL x l/\kE ⟨si m j,x,l⟩∈ah.map (·.1)) ->
  ∃o p,c9 (jP 2 (dX (aW 10) (dX (aW 11) q8))) (Si f) (oq ks) (Pa S W P F (SV m) a (some (iN j)) g i b c [d,qU ah,e])=some (.ok .nx,Pa S W P F (SV m) a (some (iN j)) o p b c [d,qU ah,e])
 | [],g,i,_=>⟨g,i,rfl⟩
 | k::ks,g,i,h=>by
  obtain⟨x,l,rfl,hk⟩:=h k aM;obtain⟨o,p,z⟩:=xP f S W P F a b c t d e ks (some (.str x)) (some (.int l)) λq u=>h q (aK _ u)
  refine⟨o,p,fC (s1:=Pa S W P F (SV m) a (some (iN j)) (some (.str x)) (some (.int l)) b c [d,qU ah,e]) rfl (iF (bT (b2 (tU (ps:=[iN (si m j),.str x,.int l]) (cA (b2 rfl rfl (acN t _)) (cA rfl (cA rfl rfl))) (by simp)) rfl (acP (f:=⟨si m j,x,l⟩) rfl hk))) rfl) z⟩
end
section
variable {m:Md} {most:Nat} {cs:List Nat} {ah:eW}
def Pj(m:Md)(cs:List Nat)(ah:eW)(j:Nat)(x:Str)(l:Int):Prop:=Gd m x l/\OA cs ah (si m j) x l
theorem Tc(h:cY m most){j:Nat}{r:Ro}(a:m.L[j]?=some r):(UO r).length<=12:=by
 have ok:=h.ok r (dc a);have len:∀(x:Str) (f n:Int),(Gn x f n).length=n.toNat:=λx f n=>by unfold Gn;rw[ao,fW]
 have one:∀s:Sp,cO m.ks s->(UN s).length<=3:=λs b=>by
  unfold UN;rw[len,uR _ _ b.row];have k:=(qj _ _ b.row).2;have c:(lv (bQ s.d)).length<=3:=(h.ks.good _ b.mem).2;show((lv s.r.2.2.2).length:Int).toNat<=3
  lia
 cases r with
 | nk t s=>have:=one s ok.2.1;exact bA this (by decide)
 | drop s=>have:=one s ok.1;exact bA this (by decide)
 | call o j g =>
  have p:=ok.2.2.2.2.1;have hk:=ok.2.2.2.1;have:∀l:List Rk,(∀q∈l,q∈m.ks)->(l.flatMap O9).length<=3*l.length:=λl=>by
   induction l with
   | nil=>simp
   | cons q l ih =>
    intro i;have u:=ih λr a=>i r (aK _ a)
    have v:(O9 q).length<=3:=by
     have c:=(h.ks.good _ (i q aM)).2;unfold O9;split
     ·rename_i s e;rw[e]at c;split
      ·simp
      ·rw[len];exact c
     ·simp
    rw[gS,aX,aN]
    lia
  have:=this g hk;show(g.flatMap O9).length<=12
  lia
 | _=>exact dn _
theorem OP(k:Nat)(hk:5<=k)(h:cY m most)(Cm:lz m cs)(T:S3 m cs ah)(S W P:PV)(a:Option PV){j:Nat}{r:Ro}{n:Nat}{c:aw}(t u v f:Option PV)(i:m.L[j]?=some r)(hc:vm (Pj m cs ah j) n c)(hn:n+12<4000000) :
  ∃E b d I J,vm (λx l=>Gd m x l/\(OA cs ah (si m j) x l\/(x,l)∈UO r)/\(x,l)∉Zn r) (n+12) E/\Ev (Hx (run txt (k+4))) (Pa S W P m.F1 (SV m) a (some (iN j)) t u v f [qT m,qU ah,c]) .nx (Pa S W P m.F1 (SV m) a (some (iN j)) b d I J [qT m,qU ah,E]):=by
 have ok:=h.ok r (dc i);have hl:=Tc h i;have M:=hc;obtain⟨ks,y,rfl,h2,h3,h4,Q⟩:=M;obtain⟨b,d,w⟩:=xP (ah:=ah) (run txt (k+4)) S W P m.F1 a v f i (qT m) BU ks t u λq o=>by
  obtain⟨x,l,e,p⟩:=Q q o;exact⟨x,l,e,p.2.2⟩
 have N:Ln λx=>[some S,some W,some P,some m.F1,some (.ref 0),some (.ref 1),a,some (SV m),some (.ref 2),some (iN j),b,d,some (cg m.fn r),x]:=⟨λ_ _ _=>rfl,λ_ _=>rfl,λ_ _=>rfl⟩
 obtain⟨C,g,R,X⟩:=ON (A:=qT m) (B:=qU ah) (P:=λx l=>Gd m x l/\(OA cs ah (si m j) x l\/(x,l)∈UO r)) (run txt (k+4)) N (UO r) n _ f (hc.imp (λx l z=>⟨z.1,.inl z.2⟩) (au _)) (by lia) λq o=>⟨acJ ok o,.inr o⟩
 obtain⟨Y,D,Z,k4⟩:=Im (A:=qT m) (B:=qU ah) (run txt (k+4)) N (Zn r) _ C g R;have e1:=Gp (H:=[qT m,qU ah,⟨.fJ true ks,y⟩]) k hk h rfl ok;have e2:=Ko (H:=[qT m,qU ah,C]) k hk h rfl ok;refine⟨Y,b,d,some (cg m.fn r),D,Z.imp (λx l z=>⟨z.1.1,z.1.2,z.2⟩) (by lia),?_⟩
 have f4:∀H,bO H m.F1 (.int 4)=some (.aq m.rows):=λ_=>rfl
 refine sq (fD (n:=2) (s1:=Pa S W P m.F1 (SV m) a (some (iN j)) t u v f [qT m,qU ah,⟨.fJ true ks,y⟩]) rfl rfl w (show 2<[qT m,qU ah,BU].length by simp)) ?_
 refine sq (aS (b2 (b2 rfl rfl (f4 _)) rfl (Gh i _)) rfl) ?_;refine sq (fS (sV (O4 (s1:=Pa S W P m.F1 (SV m) a (some (iN j)) b d (some (cg m.fn r)) f [qT m,qU ah,⟨.fJ true ks,y⟩]) (as:=[.ref 0,cg m.fn r]) (cA rfl (cA rfl rfl)) rfl rfl e1) rfl) X) ?_;exact fS (sV (O4 (s1:=Pa S W P m.F1 (SV m) a (some (iN j)) b d (some (cg m.fn r)) g [qT m,qU ah,C]) (as:=[.ref 0,cg m.fn r]) (cA rfl (cA rfl rfl)) rfl rfl e2) rfl) k4
theorem Ip(k:Nat)(hk:5<=k)(h:cY m most)(w:lz m cs)(T:S3 m cs ah)(S W P:PV)(a:Option PV):∀(l:List Nat) (j:Nat) (r:Ro) (n:Nat) (c:aw) (y b d f g:Option PV),m.L[j]?=some r->si m j∈cs->Wy m j l->vm (Pj m cs ah j) n c->n+12*(l.length+1)<4000000 ->
  ∃i I o p t u,c9 (aW 9) (Hx (run txt (k+4))) ((j::l).map iN) (Pa S W P m.F1 (SV m) a y b d f g [qT m,qU ah,c])=some (.ok .nx,Pa S W P m.F1 (SV m) a I o p t u [qT m,qU ah,i]) 
 | [],j,r,n,c,y,b,d,f,g,v,_,_,hc,B=>by
  obtain⟨i,o,p,t,u,_,e⟩:=OP k hk h w T S W P a b d f g v hc (by simp at B;lia)
  exact⟨i,_,o,p,t,u,fC rfl e rfl⟩
 | J::l,j,r,n,c,y,b,d,f,g,v,M,hw,hc,B=>by
  rw[aN]at B;obtain⟨N,o,p,t,u,Q,e⟩:=OP k hk h w T S W P a b d f g v hc (by lia)
  obtain⟨R,X⟩:=OF h w T v M hw.1;obtain⟨Y,Z⟩:=OK h v hw.1;obtain⟨i,z9,C,D,E,H,z⟩:=Ip k hk h w T S W P a l J Y (n+12) N (some (iN j)) o p t u Z R hw.2 (Q.imp (λx l q=>⟨q.1,X x l q.1 q.2.1 q.2.2⟩) (au _)) (by lia)
  exact⟨i,z9,C,D,E,H,fC rfl e z⟩
end
section
variable {m:Md} {most:Nat} {cs:List Nat} {ah:eW}
theorem YZ{a fb:Gx PV}{s:cL}(b:Ev a s (.aq (m.P.map bC)) s)(d:Ev fb s (.aq (m.LT.map bC)) s):Ev (Hq a fb) s (.ref s.h.length) ⟨s.ρ,s.h++[qT m]⟩:=by
 have e1:JD (m.P.map bC++m.LT.map bC)=some (qT m):=by
  rw[<-cf];exact S9 xK (by have:=@qp m;unfold Md.ks at this;lia)
 have hp:(m.P.map bC).isEmpty=false:=by
  have:=@qp m;unfold Md.P;split<;>rfl
 refine eB b (eB d ?_);show(if((m.P.map bC).isEmpty || (m.LT.map bC).isEmpty)=true then none else(JD (m.P.map bC++m.LT.map bC)).bind λc=>mY c s)=_
 rw[hp,if_neg (by show ¬((false || false)=true);decide),e1]
 rfl
theorem UX:∀l:List (Nat×cP),ai (l.map eN)=true
 | []=>rfl
 | q::l=>by rw[aO,ai,UX l];rfl
theorem Iq(h:cY m most):si m 0=0:=by
 obtain⟨r,b⟩:∃r,m.L[0]?=some r:=⟨_,b6 (vf h).2⟩
 cases e:m.L with
 | nil=>rw[e]at b;cases b
 | cons d L =>
  obtain⟨a,l,ho⟩:=Gk (vc d);have e1:m.as=(0,a)::(l.map (λa=>(0,a))++eA 1 (L.map vc)):=by
   unfold Md.as Md.A;rw[e,aO,eA,ho];rfl
  have c:=o9 0 a (l.map (λa=>(0,a))++eA 1 (L.map vc)) [] 0 [] (λ_ z=>nomatch z) rfl
  rw[fE,<-e1]at c;unfold si mv;rw[c];rfl
theorem OQ(h:cY m most)(c:lz m cs)(T:S3 m cs ah):∀q∈m.LT,∀i:Nat,i<vk q.2->Pj m cs ah 0 q.1 (i:Int):=λq b i a=>by
 refine⟨⟨q.2,xM q b,λz=>?_⟩,?_⟩
 ·unfold vk at a;rw[if_pos z]at a
  lia
 ·rw[Iq h];exact⟨c.zero,T.fst _ (ik _ (eF.mpr ⟨q,b,aE.mpr ⟨i,dD.mpr a,rfl⟩⟩))⟩
end
noncomputable def Y0:List Str:=["put","set","fill","copy","move","move","drop","drop","lend","lend","call","call"]
noncomputable def acQ:List Str:=["if","if","if","go","say","put","give"]
theorem acR(a:List Int):∃cs:List Int,cs.length<=60/\∀H,IZ H none (some 60) (vK a)=some (.lst (cs.map .int)):=by
 refine⟨a.take 60,by rw[iW];lia,λH=>?_⟩
 show some (PV.lst (km (a.map .int) none (some ((60:Nat):Int))))=_;rw[FP,yw]
theorem OR(a:List Int)(_:a.length<=63):Yes (run txt 21 "law" [vK a] []):=by
 obtain⟨m,hp,ok⟩:=Ki 16 (by decide) a 20 (by decide) (W:=Y0++acQ) (by decide)
 obtain⟨cs,hc,g⟩:=YI ok (by decide)
 obtain⟨d,v,T⟩:=Km 16 (by decide) ok (by decide) (hc 16 (by decide)) g
 have w:=Ax ok (by decide) 19 (by decide)
 have E:=Kp 19 ok (by decide)
 obtain⟨y,I,J⟩:=acR a;obtain⟨l,M,hw,i⟩:=YY 18 ok y I;obtain⟨r,N⟩:∃r,m.L[0]?=some r:=⟨_,b6 (vf ok).2⟩
 have vh:d.length<=5000:=by
  have Q:=Oy ok (by decide) g
  have:=jx (d.map (·.1)) (UE m cs) T.nd λx R=>by
   obtain⟨t,ht,rfl⟩:=aE.mp R;obtain⟨f,e,o⟩:=T.ok t ht;rw[e];exact Gj o
  rw[ao,Ov]at this
  lia
 have j:=H9 ok;have X:=sg ok;obtain⟨k,h⟩:=xO (run txt 20) (some (vK a)) (some (.lst (Y0.map .str))) (some m.prog) (some m.F1) [none,none,none,none,none,none,none] (qT m) d [] none (by rw[fE];exact T.nd) (λt ht=>by obtain⟨f,e,_⟩:=T.ok t ht;exact⟨f,e⟩) (by rw[fE];lia)
 rw[fE]at h;obtain⟨c,Y,Z⟩:=Dz (A:=qT m) (B:=qU d) 19 (by decide) ok (OQ ok g T)
 obtain⟨c',y9,AV,AW,Td,AJ,p⟩:=Ip 16 (by decide) ok g T (vK a) (.lst (Y0.map .str)) m.prog k l 0 r 24 c none none none none none N (by rw[Iq ok];exact g.zero) hw Y (by lia)
 have b:∀H,bO H m.prog (.int 1)=some m.F1:=Gg
 have C:∀H,bO H m.F1 (.int 1)=some (.aq (m.P.map bC)):=λ_=>rfl
 have q:∀H,bO H m.F1 (.int 3)=some (.aq (m.LT.map bC)):=λ_=>rfl
 have D:∀H,bO H m.F1 (.int 4)=some (.aq m.rows):=λ_=>rfl
 have hp:Gives (run txt 20 "_law_program" [vK a,.int 20,.lst ((Y0++acQ).map .str)] []) m.prog:=hp;obtain⟨F1,u⟩:=nw m.F1;obtain⟨P,hP⟩:=nw m.prog;rw[<-u]at b C q D h p;rw[<-hP]at hp w v j h p b;have e:run txt 21 "law" [vK a] []=some (.ok (.bl true),[qT m,qU d,c']):=by
  rw[Sj];refine gO (vL:=[some (vK a),some (.lst (Y0.map .str)),some P,some F1,some (.ref 0),some (.ref 1),k,some (SV m),some (.ref 2),y9,AV,AW,Td,AJ]) ?_;refine sq rfl ?_;refine sq (aS (c7 (cA rfl (cA rfl (cA (b2 rfl rfl (by rw[cf];exact aL (by simp))) rfl))) rfl rfl hp) rfl) ?_
  refine sq (aS (b2 rfl rfl (b _)) rfl) ?_;refine sq (aS (YZ (m:=m) (b2 rfl rfl (C _)) (b2 rfl rfl (q _))) rfl) ?_;refine sq (s1:=⟨[some (vK a),some (.lst (Y0.map .str)),some P,some F1,some (.ref 0),some (.ref 1),none,none,none,none,none,none,none,none],[qT m,qU []]⟩) rfl ?_;refine sq (fS (sV (c7 (cA rfl (cA rfl rfl)) rfl (by simp[ai,j,noRef]) v) rfl) h) ?_
  refine sq (aS (c7 (as:=[.lst (m.as.map eN)]) (cA (c7 (cA rfl (cA rfl rfl)) rfl (by simp[ai,j,noRef]) w) rfl) rfl (by simp[ai,noRef,UX]) E) rfl) ?_
  refine sq (aS (O4 (s1:=⟨[some (vK a),some (.lst (Y0.map .str)),some P,some F1,some (.ref 0),some (.ref 1),k,some (SV m),none,none,none,none,none,none],[qT m,qU d]⟩) (as:=[.aq (m.LT.map bC)]) (cA (b2 rfl rfl (q _)) rfl) rfl rfl Z) rfl) ?_;exact sq (fS (sV (c7 (as:=[.aq m.rows,.lst (y.map .int)]) (cA (b2 rfl rfl (D _)) (cA (cE rfl rfl rfl (J _)) rfl)) rfl (by simp[ai,noRef,X,YW]) i) rfl) p) (rS rfl)
 exact⟨_,e⟩
end cu
open PySem PySem.W PyProof.Rows PySem.Calls
theorem PySem.Challenge.cw_lendrule_k23_whole_empty_along_a_way_holds : PySem.Challenge.rw_lendrule_k23_whole_empty_along_a_way.Holds := by
 exact cu.fin λd a b=>L2.U.Nq (P:=cu.txt) (N:=21) (st:=cu.ab8) (x:="_law_script") (l:=PySem.Challenge.rw_lendrule_k23_whole_empty_along_a_way) (by kernel_rfl) (by kernel_rfl) rfl a b ⟨rfl,by decide,by decide⟩ (by kernel_rfl) (λw h Y=>Y) cu.OR
end
