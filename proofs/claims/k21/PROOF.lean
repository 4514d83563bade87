import PyProof.Rows.All
import Wide.All
import OpenK.AllK
import Wide.FinOn
import Lean
import PyProof.EqAt
import PyProof.EqKinds
import PyProof.TupleCall
import PySem.Challenge.RW_lostblock_k21_whole_pressed_and_wished
set_option Elab.async false
set_option linter.all false
set_option maxRecDepth 100000
def PySem.W.Fast.tw8664843849407987574:=()
def PySem.W.Fast.tw13837497664420135023:=()
def PySem.W.Fast.tw12968648643949346342:=()
def PySem.W.Fast.tw9163427508128136296:=()
def PySem.W.Fast.tw14638390548644311922:=()
def PySem.W.Fast.tw17954122210993621202:=()
def PySem.W.Fast.tw16986683538244522396:=()
def PySem.W.Fast.tw7581025285867245791:=()
def PySem.W.Fast.tw1564868873854770555:=()
def PySem.W.Fast.tw10572502236020078718:=()
def PySem.W.Fast.tw5207754357708720737:=()
def PySem.W.Fast.tw17255704397211314422:=()
def PySem.W.Fast.tw10333847212536456608:=()
def PySem.W.Fast.tw8523598193323199980:=()
def PySem.W.Fast.tw11957417762791246953:=()
def PySem.W.Fast.tw9309128409878203068:=()
def PySem.W.Fast.tw4703686496407234903:=()
def PySem.W.Fast.tw4920120800149812235:=()
def PySem.W.Fast.tw7373958814210197394:=()
def PySem.W.Fast.tw4926054818762861033:=()
def PySem.W.Fast.tw12139173152073863819:=()
def PySem.W.Fast.tw16556785012844352091:=()
def PySem.W.Fast.tw14476291273937499446:=()
def PySem.W.Fast.tw5349838569335141300:=()
def PySem.W.Fast.tw3194089655176585767:=()
def PySem.W.Fast.tw11884627763521882653:=()
def PySem.W.Fast.tw8058424038213354404:=()
def PySem.W.Fast.tw11281262137927429215:=()
def PySem.W.Fast.tw5296145681468732844:=()
def PySem.W.Fast.tw8364453846107846958:=()
def PySem.W.Fast.tw14866957908893929315:=()
def PySem.W.Fast.tw5732786367571832881:=()
def PySem.W.Fast.tw6355939536225432639:=()
def PySem.W.Fast.tw1731691695325582713:=()
def PySem.W.Fast.tw16744860707146717353:=()
def PySem.W.Fast.tw17960276739911408775:=()
def PySem.W.Fast.tw16550116194661383005:=()
def PySem.W.Fast.tw17534199873612255679:=()
def PySem.W.Fast.tw17665260216025836183:=()
def PySem.W.Fast.tw8799116335985669172:=()
def PySem.W.Fast.tw16972270821774619963:=()
def PySem.W.Fast.tw3985168724397003246:=()
def PySem.W.Fast.tw1395455247194309158:=()
def PySem.W.Fast.tw4853298829658187925:=()
def PySem.W.Fast.tw5473184759802509469:=()
def PySem.W.Fast.tw7608942438140184840:=()
def PySem.W.Fast.tw8851272381153573097:=()
def PySem.W.Fast.tw15469259933965109997:=()
def PySem.W.Fast.tw1803783249053108539:=()
def PySem.W.Fast.tw15789418083840067215:=()
def PySem.W.Fast.tw1787606563363189601:=()
def PySem.W.Fast.tw4130117343495419503:=()
def PySem.W.Fast.tw3052245933541108289:=()
def PySem.W.Fast.tw11858404144740430720:=()
local macro_rules|`(command| def $d:declId $s:optDeclSig $v:declVal)=>`(command| noncomputable def $d:declId $s:optDeclSig $v:declVal)
open PySem.W (Frag keepIn fnOf codeIn nsIn)
def Zaa:=@List.getElem?_eq_getElem
def Zab:=@List.mem_append
def Zac:=@List.getElem?_map
def Zad:=@Option.some.inj
def Zae:=@List.getD_eq_getElem?_getD
def Zaf:=@PySem.Heap.get?_push_of_some
def Zag:=@Nat.le_refl
def Zah:=@if_pos
def Zai:=@if_neg
def Zaj:=@List.mem_singleton
def Zak:=@PySem.wpAny_bind
def Zal:=@List.map_cons
def Zam:=@PyProof.Rows.wpS_bind
def Zan:=@List.Pairwise.sublist
def Zao:=@List.pairwise_append
def Zap:=@Nat.lt_of_lt_of_le
def Zaq:=@List.mem_append_right
def Zar:=@List.append_assoc
def Zas:=@List.getElem?_set_ne
def Zat:=@PyProof.Rows.wpS_pure
def Zau:=@PySem.Heap.lt_size
def Zav:=@List.getElem?_append_left
def Zaw:=@List.getElem?_append_right
def Zax:=@PySem.Heap.get?_push_size
def Zay:=@List.getElem?_eq_some_iff
def Zaz:=@decide_eq_true
def ZaA:=@List.mem_range
def ZaB:=@PySem.W.mg_of
def ZaC:=@List.mem_of_getElem?
def ZaD:=@decide_eq_false
def ZaE:=@List.take_append_drop
def ZaF:=@Nat.le_of_lt
def ZaG:=@Nat.ne_of_lt
def ZaH:=@List.getElem?_eq_none
def ZaI:=@Array.toList_append
def ZaJ:=@Int.emod_lt_of_pos
def ZaK:=@List.length_cons
def ZaL:=@PySem.wpAny_pure
def ZaM:=@List.append_nil
def ZaN:=@Array.getElem?_toList
def ZaO:=@List.mem_of_mem_take
def ZaP:=@List.map_append
def ZaQ:=@Nat.le_trans
def ZaR:=@List.drop_eq_getElem_cons
def ZaS:=@List.take_sublist
def ZaT:=@of_decide_eq_true
def ZaU:=@Int.emod_nonneg
def ZaV:=@PySem.PassesOwn.never
def ZaW:=@List.mem_cons
def ZaX:=@List.take_of_length_le
def ZaY:=@List.mem_of_mem_drop
def ZaZ:=@List.drop_sublist
def Za0:=@Int.toNat_natCast
def Za1:=@List.mem_map
def Za2:=@List.map_congr_left
def Za3:=@List.getElem?_range
def Za4:=@List.getElem?_set_self
def Za5:=@PyProof.Rows.wpS_mono
def Za6:=@Array.length_toList
def Za7:=@List.filter_cons
def Za8:=@Array.getElem?_eq_getElem
def Za9:=@PySem.wpAny_mono
def Zba:=@PyProof.Rows.wpS_forRange
def Zbb:=@Nat.zero_le
def Zbc:=@List.Perm.append_left
def Zbd:=@List.all_eq_true
def Zbe:=@List.drop_zero
def Zbf:=@Array.perm_iff_toList_perm
def Zbg:=@List.drop_of_length_le
def Zbh:=@List.mem_filter
def Zbi:=@Nat.min_eq_left
def Zbj:=@PySem.F.slot_list_append
def Zbk:=@PySem.F.plainAttrs_list
def Zbl:=@PySem.W.mg_none_of
def Zbm:=@if_false
def Zbn:=@Array.toList_push
def Zbo:=@List.map_map
def Zbp:=@Ne.symm
def Zbq:=@List.getElem?_replicate
def Zbr:=@List.take_take
def Zbs:=@List.ext_getElem?
def Zbt:=@Int.toNat_of_nonneg
def Zbu:=@List.length_take
def Zbv:=@Nat.lt_irrefl
def Zbw:=@Int.natCast_nonneg
def Zbx:=@List.length_singleton
def Zby:=@Bool.false_eq_true
def Zbz:=@List.pairwise_iff_getElem
def ZbA:=@if_true
def ZbB:=@PySem.mem_of_lookup
def ZbC:=@Nat.add_sub_cancel_left
def ZbD:=@Int.eq_ofNat_of_zero_le
def ZbE:=@List.sum_cons
def ZbF:=@List.mem_reverse
def ZbG:=@Option.map_eq_some_iff
def ZbH:=@List.Perm.append_right
def ZbI:=@List.filter_append
def ZbJ:=@congrArg
def ZbK:=@List.nodup_cons
def ZbL:=@Option.map_some
def ZbM:=@List.find?_cons
def ZbN:=@Nat.lt_trans
def ZbO:=@Nat.sub_self
def ZbP:=@List.filter_nil
def ZbQ:=@List.any_cons
set_option compiler.extract_closed false
set_option bootstrap.genMatcherCode false
set_option genSizeOf false
local macro_rules|`(tactic| omega)=>`(tactic| first|(grind only)|omega (config:={}))
local macro_rules|`(tactic| lia)=>`(tactic| first|lia -verbose|omega (config:={}))
namespace L2
open PySem PySem.Spec PyProof.Rows
noncomputable abbrev Key:=Sum Int Str
def vO:Key->Value->Bool
 |.inl k,v=>Value.isInt k v
 |.inr x,v=>Value.isStrOf x v
def SM(w:World):Key->Int
 |.inl k=>hashInt k
 |.inr x=>hashStr w x
theorem cW:∀ {k:Key}{v:Value},vO k v=true->(∃ i t,k=Sum.inl i/\v=Value.int i t)\/(∃ x t,k=Sum.inr x/\v=Value.str x t)
 |.inl i,v,h=>by
  obtain⟨t,e⟩:=Value.isInt_shape (k:=i) (v:=v) h;exact .inl ⟨i,t,rfl,e⟩
 |.inr x,v,h=>by
  obtain⟨t,e⟩:=Value.isStrOf_shape (x:=x) (v:=v) h;exact .inr ⟨x,t,rfl,e⟩
theorem Gx(i:Int)(t:Tok):vO (.inl i) (.int i t)=true:=by simp[vO,Value.isInt]
theorem Gy(x:Str)(t:Tok):vO (.inr x) (.str x t)=true:=by simp[vO,Value.isStrOf]
theorem Pk(a b:Int):decide ((Sum.inl a:Key)=Sum.inl b)=(a==b):=by
 by_cases e:a=b
 ·subst e;simp
 ·have h:¬(Sum.inl a:Key)=Sum.inl b:=λq=>e (Sum.inl.inj q);rw[ZaD h];exact(beq_eq_false_iff_ne.mpr e).symm
theorem Pn(a b:Str):decide ((Sum.inr a:Key)=Sum.inr b)=decide (a=b):=by
 by_cases e:a=b
 ·subst e;simp
 ·have h:¬(Sum.inr a:Key)=Sum.inr b:=λq=>e (Sum.inr.inj q);rw[ZaD h,ZaD e]
theorem Pu(a:Int)(b:Str):decide ((Sum.inl a:Key)=Sum.inr b)=false:=ZaD (λq=>nomatch q)
theorem Px(a:Str)(b:Int):decide ((Sum.inr a:Key)=Sum.inl b)=false:=ZaD (λq=>nomatch q)
def bR(prog:Program)(w:World):PySem.KeyKind prog w Key where
 is:=vO
 hash:=SM w
 inj:=λv a b ha hb=>by
  rcases cW ha with⟨i,t,rfl,rfl⟩|⟨x,t,rfl,rfl⟩
  ·rcases cW hb with⟨j,u,rfl,e⟩|⟨y,u,rfl,e⟩
   ·injection e with e1 _;rw[e1]
   ·exact nomatch e
  ·rcases cW hb with⟨j,u,rfl,e⟩|⟨y,u,rfl,e⟩
   ·exact nomatch e
   ·injection e with e1 _;rw[e1]
 byValue:=λk v h=>by
  rcases cW h with⟨i,t,rfl,rfl⟩|⟨x,t,rfl,rfl⟩<;>rfl
 pyHash:=λhv h=>by
  rcases cW hv with⟨i,t,rfl,rfl⟩|⟨x,t,rfl,rfl⟩
  ·exact wpAny_pyHash_int h
  ·exact wpAny_pyHash_str h
 eqBool:=λhu hv h=>by
  rcases cW hu with⟨i,t,rfl,rfl⟩|⟨x,t,rfl,rfl⟩
  ·rcases cW hv with⟨j,u,rfl,rfl⟩|⟨y,u,rfl,rfl⟩
   ·rw[Pk] at h;exact wpAny_eqBool_int h
   ·rw[Pu] at h;exact SeqAt.EqAt.int_str i t y u _ _ _ _ h
  ·rcases cW hv with⟨j,u,rfl,rfl⟩|⟨y,u,rfl,rfl⟩
   ·rw[Px] at h;exact SeqAt.EqAt.str_int x t j u _ _ _ _ h
   ·rw[Pn] at h;exact wpAny_eqBool_str h
 «strs»:=λk x t v h=>by
  rcases cW h with⟨i,u,rfl,e⟩|⟨y,u,rfl,e⟩
  ·exact nomatch e
  ·injection e with e1 _
   subst e1;cases v<;>rfl
theorem yL(prog:Program)(w:World)(i:Int)(t:Tok):(bR prog w).is (.inl i) (.int i t)=true:=Gx i t
theorem yM(prog:Program)(w:World)(x:Str)(t:Tok):(bR prog w).is (.inr x) (.str x t)=true:=Gy x t
inductive V where
 |non|bl (b:Bool)|int (i:Int)|str (x:Str)|byt (b:Array UInt8)|flt (b:UInt64)|ref (a:Addr)|ty (n:String)
 deriving DecidableEq
def RelV:V->Value->Prop
 |.non,u=>u=Value.none
 |.bl b,u=>u=Value.bool b
 |.int i,u=>∃ t,u=Value.int i t
 |.str x,u=>∃ t,u=Value.str x t
 |.byt b,u=>∃ t,u=Value.bytes b t
 |.flt b,u=>∃ t,u=Value.float b t
 |.ref a,u=>u=Value.ref a
 |.ty n,u=>u=Value.type n
noncomputable abbrev Vals:List V->List Value->Prop:=Paired RelV
theorem Vals.length{xs:List V}{us:List Value}(r:Vals xs us):xs.length=us.length:=Paired.length r
theorem Vals.get:∀ {xs:List V}{us:List Value}{i:Nat}{x:V},Vals xs us->xs[i]?=some x->∃ u,us[i]?=some u/\RelV x u
 |_,_,_,_,.nil,e=>by simp at e
 |_,_,0,_,.cons r _,e=>by simp at e;subst e;exact⟨_,rfl,r⟩
 |_,_,i+1,x,.cons _ t,e=>by
  obtain⟨u,h1,h2⟩:=Vals.get (i:=i) (x:=x) t (by simpa using e)
  exact⟨u,by simpa using h1,h2⟩
theorem Vals.append:∀ {xs ys:List V}{us ws:List Value},Vals xs us->Vals ys ws->Vals (xs++ys) (us++ws)
 |_,_,_,_,.nil,s=>s
 |_,_,_,_,.cons r t,s=>.cons r (Vals.append t s)
def tW:Option V->Option Value->Prop
 |some v,some u=>RelV v u
 |none,none=>True
 |_,_=>False
def KV{κ:Type}:List (κ×V)->List (κ×Value)->Prop:=Paired λ(p:κ×V) (q:κ×Value)=>p.1=q.1/\RelV p.2 q.2
def kV:Key->V
 |.inl i=>.int i
 |.inr x=>.str x
inductive HO where
 |lst (xs:List V)
 |tup (xs:List V)
 |dK (kvs:List (Key×V))|dT (kvs:List (List Key×V))
 |set (S:Int->Bool) (n:Nat)
 |ins (C dx:Addr) (fs:List (Str×V))
 |own (x:Addr)
 |xd (fs:List (Str×V))
 |met (f x:Addr)
 |rng (lo hi:Int)
 |frz (o:Obj) (u:HO)
 |tbl (ps:Array Value)
 |ext (φ:Heap->Prop)
 |tab (pos:Pos) (q:Str)
noncomputable abbrev Hp:=Addr->Option HO
def upd(H:Hp)(a:Addr)(o:HO):Hp:=λb=>if b=a then some o else H b
theorem aK{H:Hp}{a:Addr}{o:HO}:upd H a o a=some o:=by unfold upd;rw[Zah rfl]
theorem aq{H:Hp}{a b:Addr}{o:HO}(h:b≠a):upd H a o b=H b:=by unfold upd;rw[Zai h]
theorem Ri{H:Hp}{a b:Addr}{o u:HO}(h:H a=some o)(h':H b=some u)(d:o≠u):a≠b:=by
 intro e;subst e;rw[h] at h';exact d (Zad h')
theorem aY{H:Hp}{a b:Addr}{o:HO}(h:H a=some o)(h':H b=none):a≠b:=by
 intro e;subst e;rw[h] at h';cases h'
def fP(h:Heap)(a:Addr)(items:Array Value):Prop:=IsTup h a items/\∀ o,h.get? a=some o->o.dict=none
theorem fP.new(h:Heap)(items:Array Value):fP (h.push { cls:=.type "tuple",data:=.seq items }) h.objs.size items:=⟨IsTup.new h items,λo e=>by rw[Zax _ rfl] at e;cases e;rfl⟩
theorem fP.mk{h:Heap}{a:Addr}{items:Array Value}{n:Nat}(e:h.get? a=some { cls:=.type "tuple",data:=.seq items n }):fP h a items:=⟨⟨_,e,rfl,_,rfl⟩,λo q=>by rw[e] at q;cases q;rfl⟩
theorem fP.lt{h:Heap}{a:Addr}{items:Array Value}(x:fP h a items):a<h.objs.size:=x.1.lt
theorem fP.at'{h h':Heap}{a:Addr}{items:Array Value}(x:fP h a items)(e:∀ o,h.get? a=some o->h'.get? a=some o):fP h' a items:=by
 obtain⟨⟨o,h1,r⟩,d⟩:=x;exact⟨⟨o,e o h1,r⟩,λu q=>by rw[e o h1] at q;cases q;exact d o h1⟩
section
variable(P:Program)(w:World)
def dg(H:Hp)(h:Heap)(a:Addr):HO->Prop
 |.lst xs=>xs.length<=sizeLine/\∃ (its:List Value) (n:Nat),Vals xs its/\h.get? a=some { cls:=.type "list",data:=.seq its.toArray n }
 |.tup xs=>xs.length<=sizeLine/\∃ its:List Value,Vals xs its/\fP h a its.toArray
 |.dK kvs=>kvs.length<=sizeLine/\(a==sysModules)=false/\∃ vs,KV kvs vs/\h.DictOf (bR P w) a vs
 |.dT kvs=>kvs.length<=sizeLine/\(a==sysModules)=false/\∃ xs:List (List Key×Addr×Value),
   Paired (λ(p:List Key×V) (q:List Key×Addr×Value)=>p.1=q.1/\H q.2.1=some (.tup (p.1.map kV))/\RelV p.2 q.2.2) kvs xs /\
   ∃ o es ep,h.get? a=some o/\o.ExactDict/\o.data=.dict es ep/\es.toList=xs.map (entryOfKey (tupleKind (bR P w)))/\(xs.map (·.1)).Nodup
 |.set S n=>h.SetOf (intKind P w) a S n
 |.ins C dx fs=>H dx=some (.own a)/\fs.length<=1000/\dx≠a/\h.get? a=some (PySem.W.instObj C dx) /\
   ∃ mA,h.Ns1 dx mA/\(∀ f,tW (fs.lookup f) (mA f))/\PySem.Within mA (fs.map (·.1))
 |.own _=>∃ o,h.get? a=some o
 |.xd fs=>∃ mA,h.Ns1 a mA/\∀ f,tW (fs.lookup f) (mA f)
 |.rng lo hi=>∃ t u v,h.get? a=some { cls:=.type "range",data:=.fields #[.int lo t,.int hi u,.int 1 v] }
 |.frz o u=>h.get? a=some o/\dg H h a u
 |.tbl ps=>h.get? a=some { cls:=.none,data:=.fields ps }
 |.met f x=>h.get? a=some (PySem.W.methodObj (.ref f) (.ref x))
 |.ext φ=>φ h/\(∃ o,h.get? a=some o)/\∀ h1 h2:Heap,φ h1->(∀ o,h1.get? a=some o->h2.get? a=some o)->φ h2
 |.tab pos q=>∃ ps:Array Value,h.get? a=some { cls:=.none,data:=.fields ps }/\TriplesOk ps.toList/\(codeAmong pos ps.toList=none\/∃ (c:Addr) (oc:Obj) (vs:Array Value) (t:Tok),codeAmong pos ps.toList=some (.ref c)/\H c=some (.frz oc (.own 0))/\oc.data=.fields vs/\vs[1]?=some (.str q t))
def HOk(H:Hp)(h:Heap):Prop:=∀ a o,H a=some o->dg P w H h a o
end
section
variable{P:Program}{w:World}{H H':Hp}{h h':Heap}{a:Addr}{o:HO}
theorem dg.lt(x:dg P w H h a o):a<h.objs.size:=by
 cases o with
 |lst xs=>obtain⟨_,_,_,_,e⟩:=x;exact Zau e
 |tup xs=>obtain⟨_,_,_,p⟩:=x;exact p.lt
 |dK kvs=>obtain⟨_,_,_,_,o,_,_,e,_⟩:=x;exact Zau e
 |dT kvs=>obtain⟨_,_,_,_,o,_,_,e,_⟩:=x;exact Zau e
 |set S n=>obtain⟨o,_,_,_,e,_⟩:=x;exact Zau e
 |ins C dx fs=>obtain⟨_,_,_,e,_⟩:=x;exact Zau e
 |own y=>obtain⟨_,e⟩:=x;exact Zau e
 |xd fs=>obtain⟨_,⟨_,_,_,e,_⟩,_⟩:=x;exact Zau e
 |rng lo hi=>obtain⟨_,_,_,e⟩:=x;exact Zau e
 |frz ob u=>obtain⟨e,_⟩:=x;exact Zau e
 |tbl ps=>exact Zau (show h.get? a=some _ from x)
 |met f y=>exact Zau (show h.get? a=some _ from x)
 |ext φ=>obtain⟨_,⟨_,e⟩,_⟩:=x;exact Zau e
 |tab pos q=>obtain⟨_,e,_⟩:=x;exact Zau e
theorem Paired.Py{α β:Type}{F G:α->β->Prop}:∀ {l₁:List α}{l₂:List β},Paired F l₁ l₂->(∀ a b,F a b->G a b)->Paired G l₁ l₂
 |_,_,.nil,_=>.nil
 |_,_,.cons r t,f=>.cons (f _ _ r) (Paired.Py t f)
theorem dg.stay(x:dg P w H h a o)(k:∀ b u,(b=a\/H b=some (.own a))->h.get? b=some u->h'.get? b=some u)
  (ho:∀ b,H b=some (.own a)->H' b=some (.own a))(ht:∀ b xs,H b=some (.tup xs)->H' b=some (.tup xs))(hf:∀ b ob,H b=some (.frz ob (.own 0))->H' b=some (.frz ob (.own 0)):=by first|exact λ_ _ q=>q|(intro c ob q;first|(rw[aq (aY q (by assumption))];exact q))):dg P w H' h' a o:=by
 induction o with
 |lst xs=>obtain⟨z,its,n,r,e⟩:=x;exact⟨z,its,n,r,k _ _ (.inl rfl) e⟩
 |tup xs=>obtain⟨z,its,r,c⟩:=x;exact⟨z,its,r,c.at' λo e=>k _ _ (.inl rfl) e⟩
 |dK kvs=>obtain⟨z,y,vs,r,ob,es,ep,e,c⟩:=x;exact⟨z,y,vs,r,ob,es,ep,k _ _ (.inl rfl) e,c⟩
 |dT kvs=>
  obtain⟨z,y,xs,r,ob,es,ep,e,c⟩:=x;exact⟨z,y,xs,Paired.Py r λp q z=>⟨z.1,ht _ _ z.2.1,z.2.2⟩,ob,es,ep,k _ _ (.inl rfl) e,c⟩
 |set S n=>obtain⟨ob,es,ep,t,e,c⟩:=x;exact⟨ob,es,ep,t,k _ _ (.inl rfl) e,c⟩
 |ins C dx fs=>
  obtain⟨d,z,ne,e,mA,⟨od,es,ep,e2,c⟩,r⟩:=x;exact⟨ho _ d,z,ne,k _ _ (.inl rfl) e,mA,⟨od,es,ep,k _ _ (.inr d) e2,c⟩,r⟩
 |own y=>obtain⟨ob,e⟩:=x;exact⟨ob,k _ _ (.inl rfl) e⟩
 |xd fs=>obtain⟨mA,⟨od,es,ep,e,c⟩,r⟩:=x;exact⟨mA,⟨od,es,ep,k _ _ (.inl rfl) e,c⟩,r⟩
 |rng lo hi=>obtain⟨t,u,v,e⟩:=x;exact⟨t,u,v,k _ _ (.inl rfl) e⟩
 |frz ob u ih=>obtain⟨e,q⟩:=x;exact⟨k _ _ (.inl rfl) e,ih q⟩
 |tbl ps=>
  have e:h.get? a=some { cls:=.none,data:=.fields ps }:=x;show h'.get? a=some { cls:=.none,data:=.fields ps }
  exact k a _ (.inl rfl) e
 |met f y=>
  have e:h.get? a=some (PySem.W.methodObj (.ref f) (.ref y)):=x;show h'.get? a=some (PySem.W.methodObj (.ref f) (.ref y))
  exact k a _ (.inl rfl) e
 |ext φ=>obtain⟨p,⟨o,e⟩,st⟩:=x;exact⟨st _ _ p λo q=>k _ _ (.inl rfl) q,⟨o,k _ _ (.inl rfl) e⟩,st⟩
 |tab pos q=>obtain⟨ps,e,tr,z⟩:=x;exact⟨ps,k _ _ (.inl rfl) e,tr,z.imp id λ⟨c,oc,vs,t,z1,z2,z3⟩=>⟨c,oc,vs,t,z1,hf _ _ z2,z3⟩⟩
theorem HOk.lt(x:HOk P w H h)(e:H a=some o):a<h.objs.size:=(x a o e).lt
theorem HOk.fresh(x:HOk P w H h)(e:h.objs.size<=a):H a=none:=by
 cases q:H a with
 |none=>rfl
 |some u=>exact absurd (Zap (x.lt q) e) (Zbv _)
theorem HOk.kept(x:HOk P w H h)(k:∀ b u,h.get? b=some u->h'.get? b=some u):HOk P w H h':=λa o e=>
 (x a o e).stay (λb u _ q=>k b u q) (λ_ q=>q) λ_ _ q=>q
theorem HOk.laid(x:HOk P w H h)(k:∀ b u,h.get? b=some u->h'.get? b=some u)(hp:h.objs.size<=a)(new:dg P w (upd H a o) h' a o):HOk P w (upd H a o) h':=λb u e=>by
 have hn:=x.fresh hp;by_cases hb:b=a
 ·subst hb;rw[aK] at e;cases e;exact new
 ·rw[aq hb] at e;exact(x b u e).stay (λc v _ q=>k c v q) (λc q=>by rw[aq (aY q hn)];exact q) λc xs q=>by rw[aq (aY q hn)];exact q
end
def Rd(H:Hp)(a:Addr)(u:HO):Prop:=H a=some u\/∃ o,H a=some (.frz o u)
theorem Rd.ok{P:Program}{w:World}{H:Hp}{h:Heap}{a:Addr}{u:HO}(r:Rd H a u)(x:HOk P w H h):dg P w H h a u:=by
 rcases r with r|⟨o,r⟩
 ·exact x a u r
 ·obtain⟨_,q⟩:=x a _ r;exact q
def Mut:Option HO->Prop
 |some (.lst _)=>True
 |some (.dK _)=>True
 |some (.dT _)=>True
 |some (.set _ _)=>True
 |some (.ins _ _ _)=>True
 |some (.ext _)=>True
 |some (.tab _ _)=>True
 |_=>False
section
variable{P:Program}{w:World}{H:Hp}{h h':Heap}{x e:Addr}{o':HO}
theorem HOk.write(ok:HOk P w H h)(mu:Mut (H x))(he:e=x\/H e=some (.own x))(k:∀ b u,b≠e->h.get? b=some u->h'.get? b=some u)(heo:∃ u,h'.get? e=some u)
  (new:dg P w (upd H x o') h' x o'):HOk P w (upd H x o') h':=λb u q=>by
 have nown:∀ c y,H c=some (.own y)->c≠x:=λc y r z=>by subst z;rw[r] at mu;exact mu
 have ntup:∀ c xs,H c=some (.tup xs)->c≠x:=λc xs r z=>by subst z;rw[r] at mu;exact mu
 by_cases hb:b=x
 ·subst hb;rw[aK] at q;cases q;exact new
 ·rw[aq hb] at q;by_cases hbe:b=e
  ·have q':H b=some (.own x):=by
    rcases he with z|z
    ·exact absurd (hbe.trans z) hb
    ·rw[hbe];exact z
   rw[q] at q';cases q';obtain⟨v,hv⟩:=heo;exact⟨v,by rw[hbe];exact hv⟩
  ·refine(ok b u q).stay (λc v hc r=>k c v ?_ r) (λc r=>by rw[aq (nown c b r)];exact r) (λc xs r=>by rw[aq (ntup c xs r)];exact r) (λc ob r=>by rw[aq (λz=>by subst z;rw[r] at mu;exact mu)];exact r)
   rcases hc with rfl|hc
   ·exact hbe
   ·rintro rfl;rcases he with z|z
    ·exact nown c b hc z
    ·rw[hc] at z;cases z;exact hb rfl
end
structure Un(fs ex:List Addr)(H H':Hp)(h h':Heap):Prop where
 keep:∀ b o,h.get? b=some o->H b=none->b ∉ fs->b ∉ ex->h'.get? b=some o
 slot:∀ b o,h.get? b=some o->H b=none->b∈fs->b ∉ ex->∃ sl,h'.get? b=some { o with slots:=sl }
 free:∀ b o,h.get? b=some o->H b=none->b ∉ ex->H' b=none
 there:∀ b o,h.get? b=some o->b ∉ ex->∃ o',h'.get? b=some o'
 tups:∀ b xs,H b=some (.tup xs)->H' b=some (.tup xs)
 frzs:∀ b o u,H b=some (.frz o u)->H' b=some (.frz o u)
 tbls:∀ b ps,H b=some (.tbl ps)->∃ more,H' b=some (.tbl (ps++more))
section
variable{fs ex:List Addr}{H H1:Hp}{h h1 h':Heap}{a x e:Addr}{o:HO}
theorem Un.any(u:Un fs ex H H1 h h1){b:Addr}{ob:Obj}(q:h.get? b=some ob)(n:H b=none)(hx:b ∉ ex):∃ sl,h1.get? b=some { ob with slots:=sl }:=by
 by_cases hb:b∈fs
 ·exact u.slot b ob q n hb hx
 ·exact⟨ob.slots,u.keep b ob q n hb hx⟩
theorem Un.kept(k:∀ b u,h.get? b=some u->h'.get? b=some u):Un fs ex H H h h':=
 ⟨λb ob q _ _ _=>k b ob q,λb ob q _ _ _=>⟨ob.slots,k b ob q⟩,λ_ _ _ n _=>n,λb ob q _=>⟨ob,k b ob q⟩,λ_ _ q=>q,λ_ _ _ q=>q,λ_ ps q=>⟨#[],by rw[q];simp⟩⟩
theorem Un.refl:Un fs ex H H h h:=Un.kept λ_ _ q=>q
theorem Un.laid(k:∀ b u,h.get? b=some u->h'.get? b=some u)(hp:h.objs.size<=a)(hn:H a=none):Un fs ex H (upd H a o) h h' where
 keep:=λb u q _ _ _=>k b u q
 slot:=λb u q _ _ _=>⟨u.slots,k b u q⟩
 free:=λb u q n _=>by rw[aq (ZaG (Zap (Zau q) hp))];exact n
 there:=λb u q _=>⟨u,k b u q⟩
 tups:=λb xs q=>by rw[aq (aY q hn)];exact q
 frzs:=λb u xs q=>by rw[aq (aY q hn)];exact q
 tbls:=λb ps q=>⟨#[],by rw[aq (aY q hn),q];simp⟩
theorem Un.write(mu:Mut (H x))(he:e=x\/H e=some (.own x))(k:∀ b u,b≠e->h.get? b=some u->h'.get? b=some u)(heo:∃ u,h'.get? e=some u):Un fs ex H (upd H x o) h h':=by
 have hx:∀ b,H b=none->b≠x:=λb n z=>by subst z;rw[n] at mu;exact mu
 have hb:∀ b,H b=none->b≠e:=λb n z=>by
  subst z;rcases he with r|r
  ·exact hx b n r
  ·rw[n] at r;cases r
 have hm:∀ b u,H b=some u->¬Mut (some u)->b≠x:=λb u q nm z=>by subst z;rw[q] at mu;exact nm mu
 refine⟨λb u q n _ _=>k b u (hb b n) q,λb u q n _ _=>⟨u.slots,k b u (hb b n) q⟩,λb u q n _=>by rw[aq (hx b n)];exact n,λb u q _=>?_,
  λb xs q=>by rw[aq (hm b _ q λz=>z)];exact q,λb u xs q=>by rw[aq (hm b _ q λz=>z)];exact q,λb ps q=>⟨#[],by rw[aq (hm b _ q λz=>z),q];simp⟩⟩
 by_cases hbe:b=e
 ·subst hbe;exact heo
 ·exact⟨u,k b u hbe q⟩
end
def trk(h:Heap)(H:Hp):List Addr:=(List.range h.objs.size).filter λa=>(H a).isSome
def su(h:Heap)(H:Hp):Heap:=PySem.W.hideAll h (trk h H)
theorem Gz(h:Heap)(H:Hp):(su h H).objs.size=h.objs.size:=PySem.W.hideAll_size _ _
theorem tX{h:Heap}{H:Hp}{b:Addr}{o:Obj}(e:h.get? b=some o)(n:H b=none):(su h H).get? b=some o:=
 PySem.W.hideAll_get _ e λhm=>by
  have q:(H b).isSome=true:=(Zbh.mp hm).2;rw[n] at q;simp at q
theorem Ld{h:Heap}{H:Hp}{b:Addr}{o:Obj}(e:(su h H).get? b=some o):h.get? b=some o/\H b=none:=by
 have e':h.get? b=some o:=PySem.W.of_hideAll (trk h H) e;refine⟨e',?_⟩;cases q:H b with
 |none=>rfl
 |some x=>
  have hm:b∈trk h H:=Zbh.mpr ⟨ZaA.mpr (Zau e'),by simp[q]⟩
  have z:(su h H).get? b=none:=PySem.W.hideAll_none (trk h H) hm;rw[z] at e;cases e
def Le(g h:Heap)(L:Addr):List (Addr×Obj):=(List.range h.objs.size).filterMap λa=>if a=L\/(g.get? a).isSome=true then none else(h.get? a).map λo=>(a,o)
def rest(g h:Heap)(L d:Addr):List (Addr×Obj):=(Le g h L).filter λp=>decide (p.1≠d)
structure Mod(K:Frag)(mg:Str->Option Value)(base:Heap):Prop where
 kin:K.In base
 glob:base.Ns mainGlobals mg
 blt:∃ mb,base.Ns builtinsNs mb/\∀ x:Str,x≠"__name__"->mb x=bootBuiltins x
 nolimit:base.NoLimit
structure Cx where
 prog:Program
 w:World
 K:Frag
 mg:Str->Option Value
 base:Heap
 A:Around
 N:List Str
 s₀:Shared
 H₀:Hp
 env:Env
 outer:List Env
 stack:List Env
 ex:List Addr
 fn:Str->Bool
 calm:Bool
 pn:List (Addr×Obj)
 xe:Value->Shared->Prop
def frs(l:List Env):List Addr:=l.filterMap (·.frame)
noncomputable abbrev Cx.fs(X:Cx):List Addr:=frs X.outer
def Vis(sc:Scope)(x:Str):Prop:=sc.names.lookup x=some .local\/sc.names.lookup x=some .cell\/sc.names.lookup x=some .free
def Loc(sc:Scope)(x:Str):Prop:=sc.names.lookup x=some .local\/sc.names.lookup x=some .cell
def Look(env:Env)(h:Heap)(m:Str->Option Value)(x:Str)(u:Value):Prop:=
 (env.kindOf x=some .local/\m x=some u)\/((env.kindOf x=some .cell\/env.kindOf x=some .free)/\∃ c,env.cells.lookup x=some c/\h.IsCell c (some u))
structure Cx.Ok(X:Cx):Prop where
 mod:Mod X.K X.mg X.base
 kind:X.env.scope.kind=.function
 glob:X.env.globals=mainGlobals
 blt:X.env.builtins=builtinsNs
 above:X.s₀.heap.objs.size<=X.env.locals
 inj:∀ x y c,X.env.cells.lookup x=some c->X.env.cells.lookup y=some c->x=y
 has:∀ x,(X.env.kindOf x=some .cell\/X.env.kindOf x=some .free)->∃ c,X.env.cells.lookup x=some c
 cab:∀ x c,X.fn x=true->X.env.cells.lookup x=some c->X.s₀.heap.objs.size<=c
 hd:X.calm=true->X.A.handled=none
 frames:X.A.frames=some X.stack
 stk:X.stack=X.outer\/(X.stack=X.env::X.outer/\X.env.frame=some X.env.locals)
 exf:∀ b∈X.ex,b≠X.env.locals/\∀ x c,X.env.cells.lookup x=some c->c≠b
 bs:∀ b o,X.base.get? b=some o->X.s₀.heap.get? b=some o/\X.H₀ b=none
 bsz:X.base.objs.size<=X.s₀.heap.objs.size
 noex:∀ b o,X.base.get? b=some o->b ∉ X.ex
 exfs:∀ b∈X.ex,b ∉ X.fs
 pK:X.s₀.heap.FunFrames X.base X.outer
 frf:∀ b∈X.fs,X.H₀ b=none
structure Inv(X:Cx)(pins:List (Addr×Obj))(σ:List (Option V))(H:Hp)(s:Shared):Prop where
 ok:X.Ok
 os:s.os=X.s₀.os
 bare:AllBare s.gens
 base:Un X.fs X.ex X.H₀ H X.s₀.heap s.heap
 loc:∃ m,s.heap.Ns X.env.locals m/\∀ (i:Nat) (x:Str) (v:V),X.N[i]?=some x->σ[i]?=some (some v)->Vis X.env.scope x->∃ u,RelV v u/\Look X.env s.heap m x u
 cell:∀ x c,X.env.cells.lookup x=some c->∃ v,s.heap.IsCell c v
 free:H X.env.locals=none
 freeC:∀ x c,X.env.cells.lookup x=some c->H c=none
 pin:∀ p∈X.pn++pins,s.heap.get? p.1=some p.2/\H p.1=none/\p.1≠X.env.locals/\p.1 ∉ X.fs/\∀ v,p.2.data≠.cell v
 hok:HOk X.prog X.w H s.heap
 len:σ.length=X.N.length
section
variable{X:Cx}{pins:List (Addr×Obj)}{σ:List (Option V)}{H H':Hp}{s:Shared}{h':Heap}
theorem Cx.Ok.SN(ok:X.Ok){b:Addr}{o:Obj}(e:X.base.get? b=some o):b ∉ X.fs:=λhb=>by
 have:=(ok.pK.mem hb).1;rw[e] at this;cases this
theorem Inv.bs(I:Inv X pins σ H s):∀ b o,X.base.get? b=some o->s.heap.get? b=some o/\H b=none:=λb o e=>
 ⟨I.base.keep b o (I.ok.bs b o e).1 (I.ok.bs b o e).2 (I.ok.SN e) (I.ok.noex b o e),I.base.free b o (I.ok.bs b o e).1 (I.ok.bs b o e).2 (I.ok.noex b o e)⟩
theorem Inv.bk(I:Inv X pins σ H s):∀ b o,X.base.get? b=some o->s.heap.get? b=some o:=λb o e=>(I.bs b o e).1
theorem Inv.mod(I:Inv X pins σ H s):Mod X.K X.mg X.base:=I.ok.mod
theorem Inv.kIn(I:Inv X pins σ H s):X.K.In s.heap:=I.ok.mod.kin.keeps I.bk
theorem Inv.nolimit(I:Inv X pins σ H s):s.heap.NoLimit:=I.ok.mod.nolimit.keeps I.bk
theorem Inv.lt(I:Inv X pins σ H s):X.env.locals<s.heap.objs.size:=let⟨_,hn,_⟩:=I.loc;hn.lt
theorem Inv.sz(I:Inv X pins σ H s):X.s₀.heap.objs.size<=s.heap.objs.size:=ZaQ I.ok.above (ZaF I.lt)
theorem Inv.SQ(I:Inv X pins σ H s){a:Addr}(h:s.heap.objs.size<=a):a ∉ X.fs:=λhb=>by
 obtain⟨_,o,ho,_⟩:=I.ok.pK.mem hb;exact absurd (Zap (Zau ho) (ZaQ I.sz h)) (Zbv _)
theorem Inv.cne(I:Inv X pins σ H s):∀ x c,X.env.cells.lookup x=some c->c≠X.env.locals:=λx c e z=>by
 obtain⟨v,o,ho,hd⟩:=I.cell x c e;obtain⟨m,⟨o',es,ep,ho',hd',_⟩,_⟩:=I.loc;rw[z,ho'] at ho;cases ho;rw[hd'] at hd;cases hd
theorem Inv.pK(I:Inv X pins σ H s):s.heap.FunFrames X.base X.outer:=by
 have all:∀ (l:List Env),(∀ b∈frs l,b∈X.fs)->X.s₀.heap.FunFrames X.base l->s.heap.FunFrames X.base l:=by
  intro l;induction l with
  |nil=>intro _ _;trivial
  |cons env r ih=>
   intro hs hl;obtain⟨hk,⟨L,o,hf,hn,ho,hd⟩,hr⟩:=hl;have hL:L∈X.fs:=hs L (by unfold frs;rw[List.filterMap_cons,hf];exact List.mem_cons_self)
   obtain⟨sl,e⟩:=I.base.slot L o ho (I.ok.frf L hL) hL λz=>I.ok.exfs L z hL;exact⟨hk,⟨L,_,hf,hn,e,hd⟩,ih (λb hb=>hs b (by unfold frs;rw[List.filterMap_cons,hf];exact List.mem_cons_of_mem _ hb)) hr⟩
 exact all X.outer (λ_ hb=>hb) I.ok.pK
theorem Inv.stack(I:Inv X pins σ H s):s.heap.FunFrames X.base X.stack:=by
 rcases I.ok.stk with e|⟨e,hf⟩
 ·rw[e];exact I.pK
 ·rw[e];obtain⟨m,hn,_⟩:=I.loc;refine .cons (by rw[I.ok.kind];decide) hf hn ?_ I.pK
  exact Heap.get?_none_of_le (ZaQ I.ok.bsz I.ok.above)
theorem Inv.BZ(I:Inv X pins σ H s):∀ b∈frs X.stack,b∈X.env.locals::X.fs:=λb hb=>by
 rcases I.ok.stk with e|⟨e,hf⟩
 ·rw[e] at hb;exact List.mem_cons_of_mem _ hb
 ·rw[e] at hb;unfold frs at hb;rw[List.filterMap_cons,hf] at hb;exact hb
theorem Inv.DX(I:Inv X pins σ H s):∀ b∈frs X.stack,H b=none:=λb hb=>by
 rcases ZaW.mp (I.BZ b hb) with e|hb
 ·rw[e];exact I.free
 ·obtain⟨_,o,ho,_⟩:=I.ok.pK.mem hb;exact I.base.free b o ho (I.ok.frf b hb) λz=>I.ok.exfs b z hb
theorem Inv.step{g':Array GenState}{t':Nat}{d':Drawn}{ch:List Addr}(I:Inv X pins σ H s)
  (hch:∀ b∈ch,(b∈X.ex\/X.s₀.heap.objs.size<=b)/\b≠X.env.locals/\(∀ x c,X.env.cells.lookup x=some c->c≠b)/\∀ p∈X.pn++pins,p.1≠b)
  (keep:∀ b o,b≠X.env.locals->b ∉ X.fs->b ∉ ch->s.heap.get? b=some o->H b=none->h'.get? b=some o)
  (slot:∀ b o,b≠X.env.locals->b∈X.fs->b ∉ ch->s.heap.get? b=some o->H b=none->∃ sl,h'.get? b=some { o with slots:=sl })(free:∀ b o,b ∉ ch->s.heap.get? b=some o->H b=none->H' b=none)
  (there:∀ b o,b ∉ ch->s.heap.get? b=some o->∃ o',h'.get? b=some o')
  (tups:∀ b xs,H b=some (.tup xs)->H' b=some (.tup xs))(frzs:∀ b o u,H b=some (.frz o u)->H' b=some (.frz o u))(tbls:∀ b ps,H b=some (.tbl ps)->∃ more,H' b=some (.tbl (ps++more)))
  (ns:∀ m,s.heap.Ns X.env.locals m->h'.Ns X.env.locals m)(hok:HOk X.prog X.w H' h')(hg:AllBare g') :
  Inv X pins σ H' { s with heap:=h',gens:=g',drawn:=d',toks:=t' }:=by
 have neL:∀ b o,X.s₀.heap.get? b=some o->b≠X.env.locals:=λb o e=>ZaG (Zap (Zau e) I.ok.above);have neC:∀ b o,X.s₀.heap.get? b=some o->b ∉ X.ex->b ∉ ch:=λb o e hx hb=>by
  rcases(hch b hb).1 with z|z
  ·exact hx z
  ·exact absurd (Zap (Zau e) z) (Zbv _)
 have cellK:∀ x c,X.env.cells.lookup x=some c->∀ v,s.heap.IsCell c v->h'.IsCell c v:=λx c e v ⟨o,ho,hd⟩=>by
  have nch:c ∉ ch:=λz=>(hch c z).2.2.1 x c e rfl;by_cases hc:c∈X.fs
  ·obtain⟨sl,q⟩:=slot c o (I.cne x c e) hc nch ho (I.freeC x c e);exact⟨_,q,hd⟩
  ·exact⟨o,keep c o (I.cne x c e) hc nch ho (I.freeC x c e),hd⟩
 refine⟨I.ok,I.os,hg,⟨λb o e n hb hx=>?_,λb o e n hb hx=>?_,λb o e n hx=>?_,λb o e hx=>?_,λb xs e=>tups b xs (I.base.tups b xs e),λb o xs e=>frzs b o xs (I.base.frzs b o xs e),λb ps e=>?_⟩,?_,λx c e=>?_,?_,λx c e=>?_,λp hp=>?_,hok,I.len⟩
 ·exact keep b o (neL b o e) hb (neC b o e hx) (I.base.keep b o e n hb hx) (I.base.free b o e n hx)
 ·obtain⟨sl,e1⟩:=I.base.slot b o e n hb hx;obtain⟨sl',e2⟩:=slot b _ (neL b o e) hb (neC b o e hx) e1 (I.base.free b o e n hx);exact⟨sl',e2⟩
 ·obtain⟨o',e1⟩:=I.base.there b o e hx;exact free b o' (neC b o e hx) e1 (I.base.free b o e n hx)
 ·obtain⟨o',e1⟩:=I.base.there b o e hx;exact there b o' (neC b o e hx) e1
 ·obtain⟨m1,e1⟩:=I.base.tbls b ps e;obtain⟨m2,e2⟩:=tbls b _ e1;exact⟨m1++m2,by rw[e2,Array.append_assoc]⟩
 ·obtain⟨m,hn,hl⟩:=I.loc;refine⟨m,ns m hn,λi x v e1 e2 e3=>?_⟩;obtain⟨u,r,l⟩:=hl i x v e1 e2 e3;refine⟨u,r,?_⟩;rcases l with l|⟨k,c,e,z⟩
  ·exact .inl l
  ·exact .inr ⟨k,c,e,cellK x c e _ z⟩
 ·obtain⟨v,z⟩:=I.cell x c e;exact⟨v,cellK x c e v z⟩
 ·obtain⟨m,⟨o,_,_,ho,_⟩,_⟩:=I.loc;exact free _ o (λz=>(hch _ z).2.1 rfl) ho I.free
 ·obtain⟨v,o,ho,hd⟩:=I.cell x c e;exact free c o (λz=>(hch c z).2.2.1 x c e rfl) ho (I.freeC x c e)
 ·obtain⟨e,n,ne,nf,d⟩:=I.pin p hp;have nch:p.1 ∉ ch:=λz=>(hch p.1 z).2.2.2 p hp rfl;exact⟨keep p.1 p.2 ne nf nch e n,free p.1 p.2 nch e n,ne,nf,d⟩
theorem Inv.un{t':Nat}(I:Inv X pins σ H s)(u:Un X.fs [] H H' s.heap h')(hok:HOk X.prog X.w H' h'):Inv X pins σ H' { s with heap:=h',toks:=t' }:=by
 obtain⟨m,⟨o,es,ep,ho,r⟩,_⟩:=id I.loc;obtain⟨sl,hL⟩:=u.any ho I.free (by simp)
 exact I.step (g':=s.gens) (d':=s.drawn) (ch:=[]) (λ_ z=>nomatch z) (λb o _ hb _ e n=>u.keep b o e n hb (by simp)) (λb o _ hb _ e n=>u.slot b o e n hb (by simp)) (λb o _ e n=>u.free b o e n (by simp)) (λb o _ e=>u.there b o e (by simp)) u.tups u.frzs u.tbls (λm' hm=>by
  obtain⟨o',es',ep',ho',r'⟩:=hm;rw[ho] at ho';cases ho';exact⟨_,es',ep',hL,r'⟩) hok I.bare
theorem Inv.call{g':Array GenState}{t':Nat}{d':Drawn}{ch:List Addr}(I:Inv X pins σ H s)(u:Un (frs X.stack) ch H H' s.heap h')(hok:HOk X.prog X.w H' h')(hg:AllBare g')
  (hch:∀ b∈ch,(b∈X.ex\/X.s₀.heap.objs.size<=b)/\b≠X.env.locals/\(∀ x c,X.env.cells.lookup x=some c->c≠b)/\∀ p∈X.pn++pins,p.1≠b) :
  Inv X pins σ H' { s with heap:=h',gens:=g',drawn:=d',toks:=t' }:=by
 obtain⟨m,⟨o,es,ep,ho,r⟩,_⟩:=id I.loc;obtain⟨sl,hL⟩:=u.any ho I.free λz=>(hch _ z).2.1 rfl;exact I.step (ch:=ch) hch (λb o hL hb hc e n=>u.keep b o e n (λz=>(ZaW.mp (I.BZ b z)).elim hL hb) hc) (λb o _ _ hc e n=>u.any e n hc) (λb o hc e n=>u.free b o e n hc) (λb o hc e=>u.there b o e hc) u.tups u.frzs u.tbls (λm' hm=>by
  obtain⟨o',es',ep',ho',r'⟩:=hm;rw[ho] at ho';cases ho';exact⟨_,es',ep',hL,r'⟩) hok hg
theorem Inv.turned{t':Nat}{it:Addr}(I:Inv X pins σ H s)(k:∀ b o,b≠it->s.heap.get? b=some o->h'.get? b=some o)(hn:H it=none)(hL:it≠X.env.locals)
  (h1:it∈X.ex\/X.s₀.heap.objs.size<=it)(h2:∀ x c,X.env.cells.lookup x=some c->c≠it)(h3:∀ p∈X.pn++pins,p.1≠it):Inv X pins σ H { s with heap:=h',toks:=t' }:=by
 have nit:∀ b u,H b=some u->b≠it:=λb u e z=>by rw[z,hn] at e;cases e
 refine I.step (g':=s.gens) (d':=s.drawn) (ch:=[it]) (λb hb=>?_) (λb o _ _ hc e _=>k b o (λz=>hc (by simp[z])) e) (λb o _ _ hc e _=>⟨o.slots,k b o (λz=>hc (by simp[z])) e⟩) (λ_ _ _ _ n=>n)
  (λb o hc e=>⟨o,k b o (λz=>hc (by simp[z])) e⟩) (λ_ _ e=>e) (λ_ _ _ e=>e) (λb ps e=>⟨#[],by rw[e];simp⟩) (λm hm=>?_) (λb u e=>?_) I.bare
 ·have e:b=it:=by simpa using hb
  subst e;exact⟨h1,hL,h2,h3⟩
 ·obtain⟨o,es,ep,ho,r⟩:=hm;exact⟨o,es,ep,k _ o (Zbp hL) ho,r⟩
 ·refine(I.hok b u e).stay (λc v hc q=>k c v ?_ q) (λ_ q=>q) λ_ _ q=>q;rcases hc with z|z
  ·rw[z];exact nit b u e
  ·exact nit c _ z
theorem Inv.tok(I:Inv X pins σ H s)(t:Nat):Inv X pins σ H { s with toks:=t }:=I.un (h':=s.heap) (t':=t) Un.refl I.hok
theorem Inv.kept{t':Nat}(I:Inv X pins σ H s)(k:∀ b u,s.heap.get? b=some u->h'.get? b=some u):Inv X pins σ H { s with heap:=h',toks:=t' }:=I.un (Un.kept k) (I.hok.kept k)
theorem Inv.laid{a:Addr}{o:HO}{t':Nat}(I:Inv X pins σ H s)(k:∀ b u,s.heap.get? b=some u->h'.get? b=some u)(hp:s.heap.objs.size<=a)(new:dg X.prog X.w (upd H a o) h' a o) :
  Inv X pins σ (upd H a o) { s with heap:=h',toks:=t' }:=I.un (Un.laid k hp (I.hok.fresh hp)) (I.hok.laid k hp new)
theorem Inv.write{x e:Addr}{o:HO}{t':Nat}(I:Inv X pins σ H s)(mu:Mut (H x))(he:e=x\/H e=some (.own x))(k:∀ b u,b≠e->s.heap.get? b=some u->h'.get? b=some u)(heo:∃ u,h'.get? e=some u)
  (new:dg X.prog X.w (upd H x o) h' x o):Inv X pins σ (upd H x o) { s with heap:=h',toks:=t' }:=I.un (Un.write mu he k heo) (I.hok.write mu he k heo new)
theorem Inv.sV{pins':List (Addr×Obj)}(I:Inv X pins σ H s)(h:∀ p∈pins',s.heap.get? p.1=some p.2/\H p.1=none/\p.1≠X.env.locals/\p.1 ∉ X.fs/\∀ v,p.2.data≠.cell v):Inv X pins' σ H s:=
 ⟨I.ok,I.os,I.bare,I.base,I.loc,I.cell,I.free,I.freeC,λp hp=>(Zab.mp hp).elim (λz=>I.pin p (List.mem_append_left _ z)) (h p),I.hok,I.len⟩
theorem yN{N:List Str}(hN:N.Nodup){i j:Nat}{x:Str}(a:N[i]?=some x)(b:N[j]?=some x):i=j:=by
 obtain⟨h1,e1⟩:=Zay.mp a;obtain⟨h2,e2⟩:=Zay.mp b;exact(List.getElem_inj hN).mp (e1.trans e2.symm)
theorem vP{M:Model}{A:Around}{E:Value->Shared->Prop}{i:Nat}{x:Str}{v:V}{u:Value}{Q:Unit->Shared->Prop}(I:Inv X pins σ H s)(hN:X.N.Nodup)(hi:X.N[i]?=some x)(hx:Loc X.env.scope x)(r:RelV v u)
  (h:∀ s',Inv X pins (σ.set i (some v)) H s'->(∃ a,Heap.SameBut a s.heap s'.heap/\(a=X.env.locals\/X.env.cells.lookup x=some a))->Q () s')(hf:X.fn x=true\/X.env.scope.names.lookup x=some .local:=by first|exact .inl rfl|exact .inr rfl|assumption):wpAny M A (storeName X.env x u) Q E s:=by
 obtain⟨m,hn,hl⟩:=id I.loc;have hcls:(X.env.scope.kind==.class||(X.env.scope.kind==.module&&X.env.locals != X.env.globals))=false:=by rw[I.ok.kind];rfl
 have hiσ:i<σ.length:=by rw[I.len];exact(Zay.mp hi).1
 have cne:=I.cne;have tracked:∀ {a:Addr}{h':Heap},(∃ o,s.heap.get? a=some o/\H a=none)->Heap.SameBut a s.heap h'->HOk X.prog X.w H h':=λ{a h'} ha hs b ob e=>by
  obtain⟨_,_,hfree⟩:=ha;refine(I.hok b ob e).stay (λc w' hc q=>(hs.2 c ?_).trans q) (λ_ q=>q) λ_ _ q=>q;rintro rfl;rcases hc with rfl|hc
  ·rw[hfree] at e;cases e
  ·rw[hfree] at hc;cases hc
 rcases hx with hk|hk
 ·refine wpAny_storeName_local hk hn (λh' hn' hs=>?_) hcls;obtain⟨oL,_,_,hoL,_⟩:=id hn;refine h _ ⟨I.ok,I.os,I.bare,⟨λb o e n hb hx=>?_,λb o e n hb hx=>?_,I.base.free,λb o e hx=>?_,I.base.tups,I.base.frzs,I.base.tbls⟩,⟨_,hn',λj y v' e1 e2 e3=>?_⟩,λy c e=>?_,I.free,I.freeC,λp hp=>?_,tracked ⟨oL,hoL,I.free⟩ hs,by simpa using I.len⟩ ⟨_,hs,.inl rfl⟩
  ·exact(hs.2 b (ZaG (Zap (Zau e) I.ok.above))).trans (I.base.keep b o e n hb hx)
  ·obtain⟨sl,e1⟩:=I.base.slot b o e n hb hx;exact⟨sl,(hs.2 b (ZaG (Zap (Zau e) I.ok.above))).trans e1⟩
  ·obtain⟨o',e1⟩:=I.base.there b o e hx;exact⟨o',(hs.2 b (ZaG (Zap (Zau e) I.ok.above))).trans e1⟩
  ·by_cases hj:j=i
   ·subst hj;rw[hi] at e1;cases e1;rw[Za4 hiσ] at e2;cases e2;exact⟨u,r,.inl ⟨hk,by simp⟩⟩
   ·rw[Zas (Zbp hj)] at e2;obtain⟨u',r',q⟩:=hl j y v' e1 e2 e3;refine⟨u',r',?_⟩;rcases q with⟨k,e⟩|⟨k,c,e,z⟩
    ·refine .inl ⟨k,?_⟩;have:y≠x:=λe=>hj (yN hN e1 (e▸hi));simp[this,e]
    ·exact .inr ⟨k,c,e,z.sameBut hs (cne y c e)⟩
  ·obtain⟨w',z⟩:=I.cell y c e;exact⟨w',z.sameBut hs (cne y c e)⟩
  ·obtain⟨e,n,ne,nf,d⟩:=I.pin p hp;exact⟨(hs.2 p.1 ne).trans e,n,ne,nf,d⟩
 ·have hfn:X.fn x=true:=by
   rcases hf with z|z
   ·exact z
   ·rw[z] at hk;cases hk
  obtain⟨c,hc⟩:=I.ok.has x (.inl hk);obtain⟨w',z⟩:=I.cell x c hc;refine wpAny_storeName_cell I.ok.kind hk hc z (λh' hc' hs=>?_);obtain⟨oc,hoc,hocd⟩:=id z;refine h { s with heap:=h' } ⟨I.ok,I.os,I.bare,⟨λb o e n hb hx=>?_,λb o e n hb hx=>?_,I.base.free,λb o e hx=>?_,I.base.tups,I.base.frzs,I.base.tbls⟩,⟨m,hn.sameBut hs (Zbp (cne x c hc)),λj y v' e1 e2 e3=>?_⟩,λy c' e=>?_,I.free,I.freeC,λp hp=>?_,tracked ⟨oc,hoc,I.freeC x c hc⟩ hs,by simpa using I.len⟩ ⟨c,hs,.inr hc⟩
  ·exact(hs.2 b (ZaG (Zap (Zau e) (I.ok.cab x c hfn hc)))).trans (I.base.keep b o e n hb hx)
  ·obtain⟨sl,e1⟩:=I.base.slot b o e n hb hx;exact⟨sl,(hs.2 b (ZaG (Zap (Zau e) (I.ok.cab x c hfn hc)))).trans e1⟩
  ·obtain⟨o',e1⟩:=I.base.there b o e hx;exact⟨o',(hs.2 b (ZaG (Zap (Zau e) (I.ok.cab x c hfn hc)))).trans e1⟩
  ·by_cases hj:j=i
   ·subst hj;rw[hi] at e1;cases e1;rw[Za4 hiσ] at e2;cases e2;exact⟨u,r,.inr ⟨.inl hk,c,hc,hc'⟩⟩
   ·rw[Zas (Zbp hj)] at e2;obtain⟨u',r',q⟩:=hl j y v' e1 e2 e3;refine⟨u',r',?_⟩;rcases q with q|⟨k,c',e,z'⟩
    ·exact .inl q
    ·refine .inr ⟨k,c',e,z'.sameBut hs ?_⟩;rintro rfl;exact hj (yN hN e1 (I.ok.inj _ _ _ e hc▸hi))
  ·by_cases hcc:c'=c
   ·subst hcc;exact⟨_,hc'⟩
   ·obtain⟨w2,z2⟩:=I.cell y c' e;exact⟨w2,z2.sameBut hs hcc⟩
  ·obtain⟨e,n,ne,nf,d⟩:=I.pin p hp;refine⟨(hs.2 p.1 ?_).trans e,n,ne,nf,d⟩;intro q;rw[q,hoc] at e;have q':oc=p.2:=Zad e;exact d w' (by rw[<-q'];exact hocd)
theorem yO{M:Model}{A:Around}{E:Value->Shared->Prop}{i:Nat}{x:Str}{v:V}{u:Value}{Q:Unit->Shared->Prop}(I:Inv X pins σ H s)(hN:X.N.Nodup)(hi:X.N[i]?=some x)(hx:Loc X.env.scope x)(r:RelV v u)
  (h:∀ s',Inv X pins (σ.set i (some v)) H s'->Q () s')(hf:X.fn x=true\/X.env.scope.names.lookup x=some .local:=by first|exact .inl rfl|exact .inr rfl|assumption):wpAny M A (storeName X.env x u) Q E s:=
 vP I hN hi hx r (λs' I' _=>h s' I') hf
theorem Inv.call'{s':Shared}{ch:List Addr}(I:Inv X pins σ H s)(ho:s'.os=s.os)(u:Un (frs X.stack) ch H H' s.heap s'.heap)(hok:HOk X.prog X.w H' s'.heap)(hg:AllBare s'.gens)
  (hch:∀ b∈ch,(b∈X.ex\/X.s₀.heap.objs.size<=b)/\b≠X.env.locals/\(∀ x c,X.env.cells.lookup x=some c->c≠b)/\∀ p∈X.pn++pins,p.1≠b):Inv X pins σ H' s':=by
 obtain⟨h',g',d',t',o'⟩:=s';have e:o'=s.os:=ho;subst e;exact I.call (g':=g') (t':=t') (d':=d') u hok hg hch
end
noncomputable abbrev XK:=Value->Option Addr->Hp->Prop
noncomputable abbrev St:=List (Option V)
noncomputable abbrev VK:=V->Hp->Prop
noncomputable abbrev TE:=St->Hp->VK->Prop
noncomputable abbrev TT:=St->Hp->(Bool->Hp->Prop)->Prop
noncomputable abbrev TA:=St->Hp->(List V->Hp->Prop)->Prop
structure Ends where
 nx:St->Hp->Prop
 rt:VK
 bk:St->Hp->Prop:=λ_ _=>False
 ct:St->Hp->Prop:=λ_ _=>False
noncomputable abbrev TS:=Ends->St->Hp->Prop
def EP(X:Cx)(pins:List (Addr×Obj))(σ:St)(Q:VK)(u:Value)(s':Shared):Prop:=∃ v H',Inv X pins σ H' s'/\RelV v u/\Q v H'
def TP(X:Cx)(pins:List (Addr×Obj))(σ:St)(Q:Bool->Hp->Prop)(b:Bool)(s':Shared):Prop:=∃ H',Inv X pins σ H' s'/\Q b H'
def AP(X:Cx)(pins:List (Addr×Obj))(σ:St)(Q:List V->Hp->Prop)(us:List Value)(s':Shared):Prop:=∃ vs H',Inv X pins σ H' s'/\Vals vs us/\Q vs H'
def SP(X:Cx)(pins:List (Addr×Obj))(D:Ends)(f:Flow)(s':Shared):Prop:=
 match f with
 |.next=>∃ σ' H',Inv X pins σ' H' s'/\D.nx σ' H'
 |.brk=>∃ σ' H',Inv X pins σ' H' s'/\D.bk σ' H'
 |.cont=>∃ σ' H',Inv X pins σ' H' s'/\D.ct σ' H'
 |.ret u=>∃ v σ' H',Inv X pins σ' H' s'/\RelV v u/\D.rt v H'
def PE(X:Cx)(e:Expr)(t:TE):Prop:=
 ∀ (pins:List (Addr×Obj)) (s:Shared) (σ:St) (H:Hp) (Q:VK),Inv X pins σ H s->t σ H Q->wpAny (model X.prog X.w) X.A (eval e X.env) (EP X pins σ Q) X.xe s
def PT(X:Cx)(e:Expr)(t:TT):Prop:=
 ∀ (pins:List (Addr×Obj)) (s:Shared) (σ:St) (H:Hp) (Q:Bool->Hp->Prop),Inv X pins σ H s->t σ H Q->wpAny (model X.prog X.w) X.A (isTrue e X.env (eval e X.env)) (TP X pins σ Q) X.xe s
def PA(X:Cx)(es:List Expr)(t:TA):Prop:=
 ∀ (pos:Pos) (pins:List (Addr×Obj)) (s:Shared) (σ:St) (H:Hp) (Q:List V->Hp->Prop),Inv X pins σ H s->t σ H Q->wpAny (model X.prog X.w) X.A (spliced (backTo pos (starEach es X.env))) (AP X pins σ Q) X.xe s
def PS(X:Cx)(st:Stmt)(t:TS):Prop:=
 ∀ (pins:List (Addr×Obj)) (s:Shared) (σ:St) (H:Hp) (D:Ends),Inv X pins σ H s->t D σ H->wpAny (model X.prog X.w) X.A (exec st X.env) (SP X pins D) X.xe s
def PSs(X:Cx)(st:List Stmt)(t:TS):Prop:=
 ∀ (pins:List (Addr×Obj)) (s:Shared) (σ:St) (H:Hp) (D:Ends),Inv X pins σ H s->t D σ H->wpAny (model X.prog X.w) X.A (execs st X.env) (SP X pins D) X.xe s
theorem thn{α:Type}{t:Sem α}{Q Q':α->Shared->Prop}{M:Model}{A:Around}{E:Value->Shared->Prop}{s:Shared}(h:wpAny M A t Q E s)(hQ:∀ a s,Q a s->Q' a s):wpAny M A t Q' E s:=Za9 h hQ λ_ _ x=>x
section
variable{X:Cx}
def qT(i:Nat):TE:=λσ H Q=>∃ v,σ[i]?=some (some v)/\Q v H
def tC(v:V):TE:=λ_ H Q=>Q v H
theorem Cd{i:Nat}{x:Str}{pos:Pos}(hN:X.N[i]?=some x)(hv:Vis X.env.scope x)(hd:(x==("__debug__":Str))=false:=by decide)(hcd:(x==("__classdict__":Str))=false:=by decide):PE X (.Name x pos) (qT i):=by
 intro pins s σ H Q I h;obtain⟨v,e,h⟩:=h;obtain⟨m,hn,hl⟩:=I.loc;obtain⟨u,r,l⟩:=hl i x v hN e hv;have fin:EP X pins σ Q u s:=⟨v,H,I,r,h⟩;rcases l with⟨hk,hm⟩|⟨hk,c,hc,hcell⟩
 ·exact wpAny_Name (wpAny_loadName_local I.ok.kind hk hn hm fin) hd
 ·rcases hk with hk|hk
  ·exact wpAny_Name (wpAny_loadName_cell I.ok.kind hk hc hcell fin) hd
  ·exact wpAny_Name (wpAny_loadName_free I.ok.kind hk hc hcell fin hcd) hd
theorem aC{i j pos}:PE X (.Constant (.int i) j pos) (tC (.int i)):=λ_ _ _ H _ I h=>wpAny_Constant_int ⟨.int i,H,I.tok _,⟨_,rfl⟩,h⟩
theorem Od{b j pos}:PE X (.Constant (.bool b) j pos) (tC (.bl b)):=λ_ _ _ H _ I h=>Constant_bool ⟨.bl b,H,I,rfl,h⟩
theorem tY{x j pos}:PE X (.Constant (.str x) j pos) (tC (.str x)):=λ_ _ _ H _ I h=>Calls.Constant_str ⟨.str x,H,I.tok _,⟨_,rfl⟩,h⟩
def Gl(X:Cx)(x:Str):Prop:=X.env.kindOf x=some .globalImplicit
theorem DY{E:Value->Shared->Prop}{pins:List (Addr×Obj)}{s:Shared}{σ:St}{H:Hp}{x:Str}{u:Value}{pos:Pos}{Q:Value->Shared->Prop}(I:Inv X pins σ H s)(hg:Gl X x)(hm:X.mg x=some u)(h:Q u s)
  (hd:(x==("__debug__":Str))=false:=by decide):wpAny (model X.prog X.w) X.A (eval (.Name x pos) X.env) Q E s:=
 Calls.Name_function_global I.ok.kind hg (Calls.loadGlobal_global (by rw[I.ok.glob];exact I.mod.glob.keeps I.bk) hm h) hd
theorem tZ{E:Value->Shared->Prop}{pins:List (Addr×Obj)}{s:Shared}{σ:St}{H:Hp}{x:Str}{u:Value}{pos:Pos}{Q:Value->Shared->Prop}(I:Inv X pins σ H s)(hg:Gl X x)(hm:X.mg x=none)(hv:bootBuiltins x=some u)(h:Q u s)
  (hn:x≠"__name__":=by decide)(hd:(x==("__debug__":Str))=false:=by decide):wpAny (model X.prog X.w) X.A (eval (.Name x pos) X.env) Q E s:=by
 obtain⟨mb,h1,h2⟩:=I.mod.blt;exact Calls.Name_function_global I.ok.kind hg (Calls.loadGlobal_builtin (by rw[I.ok.glob];exact I.mod.glob.keeps I.bk) hm (by rw[I.ok.blt];exact h1.keeps I.bk) ((h2 x hn).trans hv) h) hd
theorem Lf{x:Str}{v:V}{u:Value}{pos:Pos}(hg:Gl X x)(hm:X.mg x=some u)(r:RelV v u)(hd:(x==("__debug__":Str))=false:=by decide):PE X (.Name x pos) (tC v):=
 λ_ _ _ H _ I h=>DY I hg hm ⟨v,H,I,r,h⟩ hd
variable{pos:Pos}
def tB(t:TE):TT:=λσ H Q=>t σ H λx H1=>∃ c,x=.bl c/\Q c H1
theorem Pz{e:Expr}{t:TE}(h:PE X e t)(he:∀ whole,isTrue e X.env whole=(do let v <-whole;standAt e.pos;holding [v] (truthy v)):=by intro _;rfl):PT X e (tB t):=by
 intro pins s σ H Q I hw;refine isTrue_plain (thn (h pins s σ H _ I hw) ?_) (he _);rintro v s1 ⟨x,H1,I1,r1,q1⟩;obtain⟨d,rfl,q⟩:=q1;cases r1;exact wpAny_truthy_bool ⟨H1,I1,q⟩
end
def SqL(K:Frag)(H:Hp)(a:Addr)(xs:List V):Prop:=
 Rd H a (.lst xs) \/
  ∃ (o:Obj) (its:Array Value) (n:Nat),K.lookup a=some o/\o.cls=.type "list"/\o.dict=none/\o.data=.seq its n/\its.size<=sizeLine/\Vals xs its.toList
def SqT(K:Frag)(H:Hp)(a:Addr)(xs:List V):Prop:=
 Rd H a (.tup xs) \/
  ∃ (o:Obj) (its:Array Value) (n:Nat),K.lookup a=some o/\o.cls=.type "tuple"/\o.data=.seq its n/\its.size<=sizeLine/\Vals xs its.toList
def SX:Value->Option V
 |.none=>some .non
 |.bool b=>some (.bl b)
 |.int i _=>some (.int i)
 |.str x _=>some (.str x)
 |.bytes b _=>some (.byt b)
 |.float b _=>some (.flt b)
 |.ref a=>some (.ref a)
 |.type n=>some (.ty n)
 |_=>none
theorem RelV.abs{x:V}{u:Value}(r:RelV x u):SX u=some x:=by
 cases x with
 |non=>cases r;rfl
 |bl _=>cases r;rfl
 |int _=>obtain⟨t,rfl⟩:=r;rfl
 |str _=>obtain⟨t,rfl⟩:=r;rfl
 |byt _=>obtain⟨t,rfl⟩:=r;rfl
 |flt _=>obtain⟨t,rfl⟩:=r;rfl
 |ref _=>cases r;rfl
 |ty _=>cases r;rfl
theorem RelV.inj{x y:V}{u:Value}(r:RelV x u)(q:RelV y u):x=y:=Zad (r.abs.symm.trans q.abs)
theorem Vals.inj:∀ {xs ys:List V}{us:List Value},Vals xs us->Vals ys us->xs=ys
 |_,_,_,.nil,.nil=>rfl
 |_,_,_,.cons r t,.cons r' t'=>by rw[r.inj r',Vals.inj t t']
section
variable{X:Cx}{pins:List (Addr×Obj)}{σ:St}{H:Hp}{s:Shared}{a:Addr}{xs ys:List V}
theorem SqL.of{K:Frag}(h:H a=some (.lst xs)):SqL K H a xs:=.inl (.inl h)
theorem SqT.of{K:Frag}(h:H a=some (.tup xs)):SqT K H a xs:=.inl (.inl h)
theorem Inv.list(I:Inv X pins σ H s)(h:SqL X.K H a xs):∃ its:List Value,Vals xs its/\PlainL s.heap a its.toArray/\xs.length<=sizeLine:=by
 rcases h with h|⟨o,its,n,hk,hc,hd,hs,hz,r⟩
 ·obtain⟨z,its,n,r,e⟩:=h.ok I.hok;exact⟨its,r,⟨_,n,e,rfl,rfl,rfl⟩,z⟩
 ·refine⟨its.toList,r,⟨o,n,I.kIn a o hk,hc,hd,by simpa using hs⟩,?_⟩
  have e:=r.length;simp only[Za6] at e;lia
theorem Inv.tuple(I:Inv X pins σ H s)(h:SqT X.K H a xs):∃ its:List Value,Vals xs its/\IsTup s.heap a its.toArray/\xs.length<=sizeLine:=by
 rcases h with h|⟨o,its,n,hk,hc,hs,hz,r⟩
 ·obtain⟨z,its,r,p⟩:=h.ok I.hok;exact⟨its,r,p.1,z⟩
 ·refine⟨its.toList,r,⟨o,I.kIn a o hk,hc,n,by simpa using hs⟩,?_⟩
  have e:=r.length;simp only[Za6] at e;omega
theorem Inv.t6(I:Inv X pins σ H s)(h:SqL X.K H a xs)(h':SqL X.K H a ys):xs=ys:=by
 obtain⟨its,r,⟨o,n,e,_,_,d⟩,_⟩:=I.list h;obtain⟨its',r',⟨o',n',e',_,_,d'⟩,_⟩:=I.list h';rw[e] at e';cases e';rw[d] at d';injection d' with d1 _
 have:its=its':=by simpa using ZbJ Array.toList d1
 subst this;exact r.inj r'
theorem Inv.vQ(I:Inv X pins σ H s)(h:SqT X.K H a xs)(h':SqT X.K H a ys):xs=ys:=by
 obtain⟨its,r,⟨o,e,_,n,d⟩,_⟩:=I.tuple h;obtain⟨its',r',⟨o',e',_,n',d'⟩,_⟩:=I.tuple h';rw[e] at e';cases e';rw[d] at d';injection d' with d1 _
 have:its=its':=by simpa using ZbJ Array.toList d1
 subst this;exact r.inj r'
end
noncomputable abbrev Cx.wish(X:Cx)(E:Value->Shared->Prop):Cx:={ X with xe:=E }
noncomputable abbrev Cx.nox(X:Cx):Cx:=X.wish λ_ _=>False
theorem Cx.Ok.wish{X:Cx}(ok:X.Ok)(E:Value->Shared->Prop):(X.wish E).Ok:=
 ⟨ok.mod,ok.kind,ok.glob,ok.blt,ok.above,ok.inj,ok.has,ok.cab,ok.hd,ok.frames,ok.stk,ok.exf,ok.bs,ok.bsz,ok.noex,ok.exfs,ok.pK,ok.frf⟩
theorem Cx.Ok.lV{X:Cx}{E:Value->Shared->Prop}(ok:(X.wish E).Ok):X.Ok:=
 ⟨ok.mod,ok.kind,ok.glob,ok.blt,ok.above,ok.inj,ok.has,ok.cab,ok.hd,ok.frames,ok.stk,ok.exf,ok.bs,ok.bsz,ok.noex,ok.exfs,ok.pK,ok.frf⟩
section
variable{X:Cx}{pins:List (Addr×Obj)}{σ:St}{H:Hp}{s:Shared}{E:Value->Shared->Prop}
theorem Inv.wish(I:Inv X pins σ H s)(E:Value->Shared->Prop):Inv (X.wish E) pins σ H s:=⟨I.ok.wish E,I.os,I.bare,I.base,I.loc,I.cell,I.free,I.freeC,I.pin,I.hok,I.len⟩
theorem Inv.lV(I:Inv (X.wish E) pins σ H s):Inv X pins σ H s:=⟨I.ok.lV,I.os,I.bare,I.base,I.loc,I.cell,I.free,I.freeC,I.pin,I.hok,I.len⟩
theorem SP.lV{D:Ends}{f:Flow}{s':Shared}(h:SP (X.wish E) pins D f s'):SP X pins D f s':=by
 cases f with
 |next=>obtain⟨σ',H',I,q⟩:=h;exact⟨σ',H',I.lV,q⟩
 |brk=>obtain⟨σ',H',I,q⟩:=h;exact⟨σ',H',I.lV,q⟩
 |cont=>obtain⟨σ',H',I,q⟩:=h;exact⟨σ',H',I.lV,q⟩
 |ret u=>obtain⟨v,σ',H',I,r,q⟩:=h;exact⟨v,σ',H',I.lV,r,q⟩
theorem PSs.nox{st:List Stmt}{t:TS}(h:PSs X.nox st t):PSs X st t:=λpins s σ H D I hw=>
 Za9 (h pins s σ H D (I.wish _) hw) (λ_ _ q=>q.lV) λ_ _ z=>False.elim z
end
section
variable{X:Cx}{st:Stmt}{rest:List Stmt}{t u:TS}{e:Expr}{te:TE}{pos:Pos}
def Oe:TS:=λD σ H=>D.nx σ H
def Rj(t u:TS):TS:=λD σ H=>t { D with nx:=u D } σ H
theorem fV:PSs X [] Oe:=λ_ _ σ H _ I h=>wpAny_execs_nil ⟨σ,H,I,h⟩
theorem aM(h1:PS X st t)(h2:PSs X rest u):PSs X (st::rest) (Rj t u):=by
 intro pins s σ H D I h;refine wpAny_execs_cons (thn (h1 pins s σ H { D with nx:=u D } I h) λf s1 q=>?_);cases f with
 |next=>
  obtain⟨σ',H',I',q⟩:=q;exact h2 pins s1 σ' H' D I' q
 |ret v=>exact q
 |brk=>exact q
 |cont=>exact q
theorem aQ(h1:PS X st t):PSs X [st] t:=by
 intro pins s σ H D I h;refine wpAny_execs_cons (thn (h1 pins s σ H D I h) λf s1 q=>?_);cases f with
 |next=>exact wpAny_execs_nil q
 |ret v=>exact q
 |brk=>exact q
 |cont=>exact q
theorem Inv.quiet{pins:List (Addr×Obj)}{σ:St}{H:Hp}{s:Shared}(I:Inv X pins σ H s):interactive X.env=false:=by simp[interactive,I.ok.kind]
def Ir(te:TE):TS:=λD σ H=>te σ H λ_ H1=>D.nx σ H1
theorem nG(he:PE X e te)(hs:swapsWith e none pos.line X.env=pure false:=by rfl):PS X (.Expr e pos) (Ir te):=by
 intro pins s σ H D I h;exact wpAny_Expr_any (thn (he pins s σ H _ I h) λv s1 ⟨x,H1,I1,r1,q1⟩=>⟨σ,H1,I1,q1⟩) I.quiet hs
def GC(te:TE):TS:=λD σ H=>te σ H D.rt
theorem bL(he:PE X e te):PS X (.Return (some e) pos) (GC te):=by
 intro pins s σ H D I h;exact wpAny_Return_some (thn (he pins s σ H _ I h) λv s1 ⟨x,H1,I1,r1,q1⟩=>⟨x,σ,H1,I1,r1,q1⟩)
def Rm(c:TT)(t u:TS):TS:=λD σ H=>c σ H λb H1=>if b=true then t D σ H1 else u D σ H1
theorem lF{c:Expr}{a b:List Stmt}{tc:TT}(hc:PT X c tc)(ha:PSs X a t)(hb:PSs X b u):PS X (.If c a b pos) (Rm tc t u):=by
 intro pins s σ H D I h;refine wpAny_If (thn (hc pins s σ H _ I h) ?_);rintro d s1 ⟨H1,I1,q1⟩;cases d with
 |true=>exact ha pins s1 σ H1 D I1 q1
 |false=>exact hb pins s1 σ H1 D I1 q1
def Iu:TS:=λ_ _ _=>False
theorem Iv:PS X st Iu:=λ_ _ _ _ _ _ h=>h.elim
end
noncomputable abbrev TG:=V->St->Hp->(St->Hp->Prop)->Prop
noncomputable abbrev TGs:=List V->St->Hp->(St->Hp->Prop)->Prop
def PG(X:Cx)(target:Expr)(t:TG):Prop:=
 ∀ (pins:List (Addr×Obj)) (s:Shared) (σ:St) (H:Hp) (v:V) (u:Value) (Q:St->Hp->Prop),Inv X pins σ H s->RelV v u->t v σ H Q ->
  wpAny (model X.prog X.w) X.A (assign target X.env u) (λ_ s'=>∃ σ' H',Inv X pins σ' H' s'/\Q σ' H') X.xe s
def PGs(X:Cx)(ts:List Expr)(t:TGs):Prop:=
 ∀ (pins:List (Addr×Obj)) (s:Shared) (σ:St) (H:Hp) (vs:List V) (us:List Value) (Q:St->Hp->Prop),Inv X pins σ H s->Vals vs us->t vs σ H Q ->
  wpAny (model X.prog X.w) X.A (assignInOrder ((assignEach ts X.env).map (·.2)) us) (λ_ s'=>∃ σ' H',Inv X pins σ' H' s'/\Q σ' H') X.xe s
section
variable{X:Cx}{pos:Pos}
def t7(i:Nat):TG:=λv σ H Q=>Q (σ.set i (some v)) H
theorem bW{i:Nat}{x:Str}(hN:X.N.Nodup)(hi:X.N[i]?=some x)(hx:Loc X.env.scope x)(hf:X.fn x=true\/X.env.scope.names.lookup x=some .local:=by first|exact .inl rfl|exact .inr rfl|assumption):PG X (.Name x pos) (t7 i):=by
 intro pins s σ H v u Q I r h;exact wpAny_assign_Name (yO I hN hi hx r (λs' I'=>⟨_,H,I',h⟩) hf)
def Ro:TGs:=λvs σ H Q=>vs=[]/\Q σ H
def Og(t:TG)(u:TGs):TGs:=λvs σ H Q=>∃ v r,vs=v::r/\t v σ H λσ' H'=>u r σ' H' Q
theorem jx:PGs X [] Ro:=by
 intro pins s σ H vs us Q I r h;obtain⟨e,h⟩:=h;subst e;cases r;exact assignInOrder_nil ⟨σ,H,I,h⟩
theorem cM{e:Expr}{es:List Expr}{t:TG}{u:TGs}(h1:PG X e t)(h2:PGs X es u)
  (hs:(assignEach (e::es) X.env).map (·.2)=assign e X.env::(assignEach es X.env).map (·.2):=by rfl):PGs X (e::es) (Og t u):=by
 intro pins s σ H vs us Q I r h;obtain⟨v,vr,e1,h⟩:=h;subst e1;cases r with
 |cons r rr=>
  rw[hs];refine assignInOrder_cons (thn (h1 pins s σ H _ _ _ I r h) ?_);rintro _ s1 ⟨σ1,H1,I1,q1⟩;exact h2 pins s1 σ1 H1 _ _ Q I1 rr q1
def PB(K:Frag)(n:Nat)(t:TGs):TG:=λv σ H Q=>∃ a xs,v=.ref a/\SqT K H a xs/\xs.length=n/\t xs σ H Q
theorem qU{es:List Expr}{k:Nat}{t:TGs}{n:Nat}(hc:X.calm=true)(h:PGs X es t)
  (hn:(assignEach es X.env).length=n:=by rfl)(hst:(assignEach es X.env).findIdx? (·.1)=none:=by rfl):PG X (.Tuple es k pos) (PB X.K n t):=by
 intro pins s σ H v u Q I r hw;obtain⟨a,xs,e1,hq,hl,hw⟩:=hw;subst e1;cases r;obtain⟨its,rv,ht,hz⟩:=I.tuple hq;refine assign_Tuple_tuple (I.ok.hd hc) ht (by simp[hn,<-hl,rv.length]) hst λh' hx=>?_
 have I1:Inv X pins σ H { s with heap:=h' }:=I.kept (t':=s.toks) λb o e=>hx b o (ZaG (Zau e)) e;exact h pins _ σ H xs _ Q I1 (by simpa using rv) hw
def GD(te:TE)(g:TG):TS:=λD σ H=>te σ H λx H1=>g x σ H1 D.nx
theorem Iw{tg e:Expr}{te:TE}{g:TG}(he:PE X e te)(hg:PG X tg g)(hs:swapsWithSole [tg] e pos.line X.env=pure false:=by rfl)(hw:swappedStores [tg] e X.env=pure none:=by rfl)
  (h1:(assignEach [tg] X.env).map (·.2)=[assign tg X.env]:=by rfl):PS X (.Assign [tg] e pos) (GD te g):=by
 intro pins s σ H D I h;refine wpAny_Assign_stores (thn (he pins s σ H _ I h) ?_) hs hw;rintro v s1 ⟨x,H1,I1,r1,q1⟩;rw[h1];exact thn (hg pins s1 σ H1 x v _ I1 r1 q1) λ_ s2 q=>q
theorem bx{i:Nat}{x:Str}{e:Expr}{te:TE}{pos':Pos}(hN:X.N.Nodup)(hi:X.N[i]?=some x)(hx:Loc X.env.scope x)(he:PE X e te)(hs:swapsWith e (some (.Name x pos')) pos.line X.env=pure false:=by rfl)(hf:X.fn x=true\/X.env.scope.names.lookup x=some .local:=by first|exact .inl rfl|exact .inr rfl|assumption) :
  PS X (.Assign [.Name x pos'] e pos) (GD te (t7 i)):=by
 intro pins s σ H D I h;refine wpAny_Assign_Name (thn (he pins s σ H _ I h) ?_) hs;rintro v s1 ⟨y,H1,I1,r1,q1⟩;exact yO I1 hN hi hx r1 (λs2 I2=>⟨_,H1,I2,q1⟩) hf
end
section
variable{X:Cx}{pos:Pos}
def Iz(c:TT)(tb:TS):TS:=λD σ H=>∃ W:Nat->St->Hp->Prop,(∃ m,W m σ H)/\∀ m σ H,W m σ H ->
 c σ H λb H1=>if b=true then ∃ N:St->Hp->Prop,(∀ σ' H',N σ' H'->∃ m',m'<m/\W m' σ' H')/\tb { D with nx:=N,ct:=N,bk:=D.nx } σ H1 else D.nx σ H1
theorem IK{c:Expr}{body:List Stmt}{tc:TT}{tb:TS}(hp:PassesOwn (model X.prog X.w) X.A X.env X.xe)(hc:PT X c tc)(hb:PSs X body tb):PS X (.While c body [] pos) (Iz tc tb):=by
 intro pins s σ H D I h;obtain⟨W,⟨m0,w0⟩,turn⟩:=h;refine wpAny_While (codeAny_whileLoop (λn s'=>∃ σ' H',Inv X pins σ' H' s'/\W n σ' H') ?_ m0 ⟨σ,H,I,w0⟩);rintro n s1 ⟨σ1,H1,I1,w1⟩;refine wpAny_passesOwn hp (thn (hc pins s1 σ1 H1 _ I1 (turn n σ1 H1 w1)) ?_);rintro b s2 ⟨H2,I2,q2⟩;cases b with
 |true=>
  obtain⟨N,hN,q2⟩:=q2;rw[Zah rfl];refine wpAny_passesOwn hp (thn (hb pins s2 σ1 H2 _ I2 q2) λf s3 q3=>?_);cases f with
  |next=>
   obtain⟨σ3,H3,I3,n3⟩:=q3;obtain⟨m',hm,w3⟩:=hN σ3 H3 n3;exact⟨m',hm,σ3,H3,I3,w3⟩
  |cont=>
   obtain⟨σ3,H3,I3,n3⟩:=q3;obtain⟨m',hm,w3⟩:=hN σ3 H3 n3;exact⟨m',hm,σ3,H3,I3,w3⟩
  |brk=>exact q3
  |ret v=>exact q3
 |false=>
  rw[Zai Bool.false_ne_true];exact wpAny_execs_nil ⟨σ1,H2,I2,q2⟩
end
structure It where
 go:Nat->Hp->Prop
 yld:Nat->Hp->V->Hp->Prop
 stop:Nat->Hp->Prop
def oU(X:Cx)(pins:List (Addr×Obj))(H:Hp)(b:Addr):Prop:=
 H b=none/\b≠X.env.locals/\b ∉ X.fs/\(b∈X.ex\/X.s₀.heap.objs.size<=b)/\(∀ x c,X.env.cells.lookup x=some c->c≠b)/\∀ p∈X.pn++pins,p.1≠b
theorem Inv.t8{X:Cx}{pins:List (Addr×Obj)}{σ:St}{H H':Hp}{s:Shared}{b:Addr}(I:Inv X pins σ H s)(hb:s.heap.objs.size<=b)(hn:H' b=none):oU X pins H' b:=by
 refine⟨hn,Nat.ne_of_gt (Zap I.lt hb),I.SQ hb,.inr (ZaQ I.sz hb),λx c e z=>?_,λp hp z=>?_⟩
 ·obtain⟨v,q⟩:=I.cell x c e;exact absurd (Zap q.lt (by rw[z];exact hb)) (Zbv _)
 ·exact absurd (Zap (Zau (I.pin p hp).1) (by rw[z];exact hb)) (Zbv _)
structure Turn(P:Program)(w:World)(K:Frag)(tg:Expr)(J:It)(fp:List Addr)(it:Addr)(tn:Nat->Heap->Prop):Prop where
 mem:it∈fp
 obj:∀ i h,tn i h->∀ b∈fp,∃ o,h.get? b=some o/\∀ v,o.data≠.cell v
 keep:∀ i h h',tn i h->(∀ b∈fp,∀ o,h.get? b=some o->h'.get? b=some o)->tn i h'
 item:∀ (X:Cx),X.prog=P->X.w=w->X.K=K->X.calm=true->∀ (i:Nat) (pins:List (Addr×Obj)) (s:Shared) (σ:St) (H:Hp) (E:Value->Shared->Prop),Inv X pins σ H s->(∀ b∈fp,oU X pins H b)->tn i s.heap->J.go i H ->
  wpAny (model P w) X.A (pyNext (.ref it)) (λr s1=>∃ u,r=some u /\
   wpAny (model P w) X.A (letOwnedTupleGo tg (.ref it) u) (λ_ s2=>∃ x H',Inv X pins σ H' s2/\RelV x u/\J.yld i H x H'/\tn (i+1) s2.heap/\∀ b∈fp,H' b=none) E s1) E s
 done:∀ (X:Cx),X.prog=P->X.w=w->X.K=K->X.calm=true->∀ (i:Nat) (pins:List (Addr×Obj)) (s:Shared) (σ:St) (H:Hp) (E:Value->Shared->Prop),Inv X pins σ H s->(∀ b∈fp,oU X pins H b)->tn i s.heap->J.stop i H ->
  wpAny (model P w) X.A (pyNext (.ref it)) (λr s1=>r=none/\Inv X pins σ H s1) E s
 self:∀ (A:Around) (i:Nat) (s:Shared) (Q:Value->Shared->Prop) (E:Value->Shared->Prop),tn i s.heap->Q (.ref it) s->wpAny (model P w) A (pyIter (.ref it)) Q E s
noncomputable abbrev TI:=St->Hp->(It->Hp->Prop)->Prop
def PIE(X:Cx)(pins:List (Addr×Obj))(σ:St)(tg:Expr)(R:It->Hp->Prop)(itv:Value)(s2:Shared):Prop:=
 ∃ (it:Addr) (fp:List Addr) (tn:Nat->Heap->Prop) (J:It) (H':Hp),itv=.ref it/\Inv X pins σ H' s2/\Turn X.prog X.w X.K tg J fp it tn/\tn 0 s2.heap/\(∀ b∈fp,oU X pins H' b)/\R J H'
def PI(X:Cx)(tg iter:Expr)(wi:TI):Prop:=
 ∀ (pins:List (Addr×Obj)) (s:Shared) (σ:St) (H:Hp) (R:It->Hp->Prop),Inv X pins σ H s->wi σ H R ->
  wpAny (model X.prog X.w) X.A (eval iter X.env) (λv s1=>wpAny (model X.prog X.w) X.A (pyIter v) (PIE X pins σ tg R) X.xe s1) X.xe s
theorem yP{M:Model}{A:Around}{E:Value->Shared->Prop}{s:Shared}{tg:Expr}{it:Addr}{u:Value}{o:Obj}{n:String}{vs:Array Value}{Q:Unit->Shared->Prop}(ho:s.heap.get? it=some o)(hc:o.cls=.type n)(hd:o.data=.fields vs)
  (hn:["enumerate","zip","dict_itemiterator","dict_reverseitemiterator","odict_iterator","itertools.zip_longest","itertools.pairwise"].contains n=false)(hQ:Q () s):wpAny M A (letOwnedTupleGo tg (.ref it) u) Q E s:=by
 unfold letOwnedTupleGo;cases tg<;>first
  |exact ZaL hQ
  |(cases u<;>first
    |exact ZaL hQ
    |(refine Zak (wpAny_load ho ?_)
      rw[hc,hd];show wpAny M A (if(["enumerate","zip","dict_itemiterator","dict_reverseitemiterator","odict_iterator","itertools.zip_longest","itertools.pairwise"].contains n&&vs[0]?==some (rawInt _))=true then _ else _) Q E s
      rw[Zai (by intro h;rw[hn,Bool.false_and] at h;cases h)]
      exact ZaL hQ))
def Itl(K:Frag)(a:Addr):It:=
 ⟨λi H=>∃ xs x,SqL K H a xs/\xs[i]?=some x,λi H x H'=>H'=H/\∀ xs,SqL K H a xs->xs[i]?=some x,λi H=>∃ xs,SqL K H a xs/\xs.length<=i⟩
def Itt(K:Frag)(a:Addr):It:=
 ⟨λi H=>∃ xs x,SqT K H a xs/\xs[i]?=some x,λi H x H'=>H'=H/\∀ xs,SqT K H a xs->xs[i]?=some x,λi H=>∃ xs,SqT K H a xs/\xs.length<=i⟩
def Itr(lo:Int)(n:Nat):It:=⟨λi _=>i<n,λi H x H'=>H'=H/\x=.int (lo+i),λi _=>n<=i⟩
theorem GF{P:Program}{w:World}{K:Frag}{tg:Expr}(a it:Addr):Turn P w K tg (Itl K a) [it] it (λi h=>h.IsListIter it a i) where
 mem:=by simp
 obj:=λi h st b hb=>by
  have e:b=it:=by simpa using hb
  subst e;obtain⟨o,e,c,d⟩:=st;exact⟨o,e,λv z=>by rw[d] at z;cases z⟩
 keep:=λi h h' st k=>st.at λo e=>k it (by simp) o e
 item:=by
  intro X hP hw hK hc i pins s σ H E I hf st hg;subst hP hw hK;obtain⟨xs,x,hq,hx⟩:=hg;obtain⟨its,rv,p,hz⟩:=I.list hq;obtain⟨u,hu,ru⟩:=rv.get hx;obtain⟨f0,f1,f2,f3,f4,f5⟩:=hf it (by simp)
  refine wpAny_pyNext_list_item st p.isList (x:=u) (by simpa using hu) λh' st' sb=>?_
  have I1:Inv X pins σ H { s with heap:=h' }:=I.turned (t':=s.toks) (λb o hb e=>(sb.2 b hb).trans e) f0 f1 f3 f4 f5;obtain⟨o,e,c,d⟩:=id st';exact⟨u,rfl,yP (s:={ s with heap:=h' }) e c d (by decide) ⟨x,H,I1,ru,⟨rfl,λys hy=>by rw[I.t6 hy hq];exact hx⟩,st',λb hb=>(hf b hb).1⟩⟩
 done:=by
  intro X hP hw hK hc i pins s σ H E I hf st hg;subst hP hw hK;obtain⟨xs,hq,hx⟩:=hg;obtain⟨its,rv,p,hz⟩:=I.list hq;obtain⟨f0,f1,f2,f3,f4,f5⟩:=hf it (by simp)
  have hl:=rv.length;exact wpAny_pyNext_list_end (I.ok.hd hc) st p.isList (by simp;lia) λh' eb=>⟨rfl,I.turned (t':=s.toks) (λb o hb e=>eb b o hb e) f0 f1 f3 f4 f5⟩
 self:=λ_ _ _ _ _ st h=>wpAny_pyIter_listiter st h
theorem Ce{P:Program}{w:World}{K:Frag}{tg:Expr}(a it:Addr):Turn P w K tg (Itt K a) [it] it (λi h=>h.IsTupleIter it a i) where
 mem:=by simp
 obj:=λi h st b hb=>by
  have e:b=it:=by simpa using hb
  subst e;obtain⟨o,e,c,d⟩:=st;exact⟨o,e,λv z=>by rw[d] at z;cases z⟩
 keep:=λi h h' st k=>st.at λo e=>k it (by simp) o e
 item:=by
  intro X hP hw hK hc i pins s σ H E I hf st hg;subst hP hw hK;obtain⟨xs,x,hq,hx⟩:=hg;obtain⟨its,rv,p,hz⟩:=I.tuple hq;obtain⟨u,hu,ru⟩:=rv.get hx;obtain⟨f0,f1,f2,f3,f4,f5⟩:=hf it (by simp)
  refine wpAny_pyNext_tuple_item st (show s.heap.IsTuple a its.toArray from p) (x:=u) (by simpa using hu) λh' st' sb=>?_
  have I1:Inv X pins σ H { s with heap:=h' }:=I.turned (t':=s.toks) (λb o hb e=>(sb.2 b hb).trans e) f0 f1 f3 f4 f5;obtain⟨o,e,c,d⟩:=id st';exact⟨u,rfl,yP (s:={ s with heap:=h' }) e c d (by decide) ⟨x,H,I1,ru,⟨rfl,λys hy=>by rw[I.vQ hy hq];exact hx⟩,st',λb hb=>(hf b hb).1⟩⟩
 done:=by
  intro X hP hw hK hc i pins s σ H E I hf st hg;subst hP hw hK;obtain⟨xs,hq,hx⟩:=hg;obtain⟨its,rv,p,hz⟩:=I.tuple hq;obtain⟨f0,f1,f2,f3,f4,f5⟩:=hf it (by simp)
  have hl:=rv.length;exact wpAny_pyNext_tuple_end (I.ok.hd hc) st (show s.heap.IsTuple a its.toArray from p) (by simp;omega) λh' eb=>⟨rfl,I.turned (t':=s.toks) (λb o hb e=>eb b o hb e) f0 f1 f3 f4 f5⟩
 self:=λ_ _ _ _ _ st h=>wpAny_pyIter_tupleiter st h
theorem Ci{P:Program}{w:World}{K:Frag}{tg:Expr}(it:Addr)(lo:Int)(n:Nat):Turn P w K tg (Itr lo n) [it] it (λi h=>IsRangeIter h it (lo+(i:Nat)*1) ((n:Int)-(i:Nat)) 1) where
 mem:=by simp
 obj:=λi h st b hb=>by
  have e:b=it:=by simpa using hb
  subst e;exact⟨_,st,λv z=>by
   have z':Data.fields _=Data.cell v:=z;cases z'⟩
 keep:=λi h h' st k=>k it (by simp) _ st
 item:=by
  intro X hP hw hK hc i pins s σ H E I hf st hg;subst hP hw hK;obtain⟨f0,f1,f2,f3,f4,f5⟩:=hf it (by simp)
  have W:=Walks.range (prog:=X.prog) (w:=X.w) (I.ok.hd hc) it lo 1 n;refine W.item i s _ _ hg st λv h' tk hv st' kk=>?_;obtain⟨t,rfl⟩:=hv;have I1:Inv X pins σ H { s with heap:=h',toks:=tk }:=I.turned (λb o hb e=>kk b o (by simpa using hb) e) f0 f1 f3 f4 f5
  refine⟨_,rfl,yP (s:={ s with heap:=h',toks:=tk }) (n:="range_iterator") st' rfl rfl (by decide) ⟨.int (lo+i),H,I1,⟨t,?_⟩,⟨rfl,rfl⟩,st',λb hb=>(hf b hb).1⟩⟩
  rw[Int.mul_one]
 done:=by
  intro X hP hw hK hc i pins s σ H E I hf st hg;subst hP hw hK;obtain⟨f0,f1,f2,f3,f4,f5⟩:=hf it (by simp)
  exact wpAny_pyNext_range_end (I.ok.hd hc) st (by have:n<=i:=hg;omega) λh' eb=>⟨rfl,I.turned (t':=s.toks) (λb o hb e=>eb b o hb e) f0 f1 f3 f4 f5⟩
 self:=λ_ _ _ _ _ st h=>wpAny_pyIter_rangeiter st h
section
variable{X:Cx}{tg:Expr}
theorem IV{pins:List (Addr×Obj)}{σ:St}{H:Hp}{s:Shared}{R:It->Hp->Prop}{E:Value->Shared->Prop}{lo hi:Int}{t u v:Tok}{tk:Nat}(I:Inv X pins σ H s)(h1:-(2^62)<=lo)(h2:lo<2^62)(h3:-(2^62)<=hi)(h4:hi<2^62)
  (q:R (Itr lo (hi-lo).toNat) H):wpAny (model X.prog X.w) X.A (pyIter (.ref s.heap.objs.size)) (PIE X pins σ tg R) E { s with heap:=s.heap.push { cls:=.type "range",data:=.fields #[.int lo t,.int hi u,.int 1 v] },toks:=tk }:=by
 refine wpAny_pyIter_range (IsRange.new ..) (small_one h1 h2 h3 h4) ?_;have I1:Inv X pins σ H { s with heap:=s.heap.push { cls:=.type "range",data:=.fields #[.int lo t,.int hi u,.int 1 v] },toks:=tk }:=I.kept λb o e=>Zaf _ e;refine⟨(s.heap.push { cls:=.type "range",data:=.fields #[.int lo t,.int hi u,.int 1 v] }).objs.size,[(s.heap.push { cls:=.type "range",data:=.fields #[.int lo t,.int hi u,.int 1 v] }).objs.size],_,_,H,rfl,
  I1.kept (t':=tk) λb o e=>Zaf _ e,Ci _ lo (hi-lo).toNat,?_,λb hb=>?_,q⟩
 ·have e1:lo+((0:Nat):Int)*1=lo:=by simp
  have e2:(((hi-lo).toNat:Nat):Int)-((0:Nat):Int)=Builtin.Range.rangeSize lo hi 1:=by rw[rangeSize_one];split<;>omega
  show IsRangeIter _ _ (lo+((0:Nat):Int)*1) ((((hi-lo).toNat:Nat):Int)-((0:Nat):Int)) 1
  rw[e1,e2];exact Zax _ rfl
 ·have e:b=(s.heap.push { cls:=.type "range",data:=.fields #[.int lo t,.int hi u,.int 1 v] }).objs.size:=by simpa using hb
  subst e;exact I1.t8 (Zag _) (I1.hok.fresh (Zag _))
def Oh(ta:TA):TI:=λσ H R=>ta σ H λvs H1=>∃ j:Int,vs=[.int j]/\-(2^62)<=j/\j<2^62/\R (Itr 0 j.toNat) H1
theorem dF{a:Expr}{ta:TA}{p pos:Pos}(hg:Gl X "range")(hm:X.mg "range"=none)(ha:PA X [a] ta)(hs:starEach [a] X.env=[(false,eval a X.env)]:=by rfl):PI X tg (.Call (.Name "range" p) [a] [] pos) (Oh ta):=by
 intro pins s σ H R I h;refine Call_ (tZ I hg hm boot_range (PyProof.Rows.callWith_type1 (thn (ha pos pins s σ H _ I h) ?_) hs rfl));rintro us s1 ⟨vs,H1,I1,r1,q1⟩;obtain⟨j,e,q1,q2,q⟩:=q1;subst e;cases r1 with
 |cons r rr=>
  cases rr;obtain⟨t,rfl⟩:=r;exact call_range_1 (IV I1 (by omega) (by omega) q1 q2 (by simpa using q))
def PJ(wi:TI)(g:TG)(tb:TS):TS:=λD σ H=>wi σ H λJ H1=>∃ W:Nat->Nat->St->Hp->Prop,(∃ m,W 0 m σ H1)/\∀ i m σ H,W i m σ H ->
 (J.stop i H/\D.nx σ H)\/(J.go i H/\∃ N:St->Hp->Prop,(∀ σ' H',N σ' H'->∃ m',m'<m/\W (i+1) m' σ' H')/\∀ x H',J.yld i H x H'->g x σ H' λσ2 H2=>tb { D with nx:=N,ct:=N,bk:=D.nx } σ2 H2)
def uc(fp:List Addr)(h:Heap):List (Addr×Obj):=fp.filterMap λb=>(h.get? b).map λo=>(b,o)
theorem kh{fp:List Addr}{h:Heap}{b:Addr}{o:Obj}(hb:b∈fp)(e:h.get? b=some o):(b,o)∈uc fp h:=List.mem_filterMap.mpr ⟨b,hb,by rw[e];rfl⟩
theorem GJ{fp:List Addr}{h:Heap}{p:Addr×Obj}(hp:p∈uc fp h):p.1∈fp/\h.get? p.1=some p.2:=by
 obtain⟨b,hb,e⟩:=List.mem_filterMap.mp hp;cases q:h.get? b with
 |none=>rw[q] at e;cases e
 |some o=>
  rw[q] at e;have e':(b,o)=p:=Zad e;subst e';exact⟨hb,q⟩
theorem Inv.pinned{pins:List (Addr×Obj)}{σ:St}{H:Hp}{s:Shared}{fp:List Addr}(I:Inv X pins σ H s)(hf:∀ b∈fp,oU X pins H b)(ho:∀ b∈fp,∃ o,s.heap.get? b=some o/\∀ v,o.data≠.cell v):Inv X (pins++uc fp s.heap) σ H s:=
 I.sV λp hp=>(Zab.mp hp).elim (λz=>I.pin p (Zaq _ z)) λz=>by
  obtain⟨hb,e⟩:=GJ z;obtain⟨f0,f1,f2,_⟩:=hf p.1 hb;obtain⟨o,e',d⟩:=ho p.1 hb;rw[e] at e';cases e';exact⟨e,f0,f1,f2,d⟩
theorem Inv.ji{pins pl:List (Addr×Obj)}{σ:St}{H:Hp}{s:Shared}(I:Inv X (pins++pl) σ H s):Inv X pins σ H s:=I.sV λp hp=>I.pin p (Zaq _ (List.mem_append_left _ hp))
theorem fQ{iter:Expr}{body:List Stmt}{wi:TI}{g:TG}{tb:TS}{pos:Pos}(hp:PassesOwn (model X.prog X.w) X.A X.env X.xe)(hc:X.calm=true)(hi:PI X tg iter wi)(hg:PG X tg g)(hb:PSs X body tb)
  (hs:∀ x,foldedSetIterable iter X.env x=pure x:=by intro _;rfl):PS X (.For tg iter body [] pos) (PJ wi g tb):=by
 intro pins s σ H D I h;refine wpAny_For (thn (hi pins s σ H _ I h) λv s1 h1=>thn h1 λitv s2 h2=>?_) hs;obtain⟨it,fp,tn,J,H2,e,I2,T,st2,f2,W,⟨m0,w0⟩,turn⟩:=h2;subst e;have stat:∀ {H':Hp},(∀ b∈fp,H' b=none)->∀ b∈fp,oU X pins H' b:=λhn b hb=>⟨hn b hb,(f2 b hb).2⟩;refine codeAny_forLoop_any (λn s'=>∃ i σ' H',Inv X pins σ' H' s'/\tn i s'.heap/\(∀ b∈fp,H' b=none)/\W i n σ' H') ?_ m0 ⟨0,σ,H2,I2,st2,λb hb=>(f2 b hb).1,w0⟩;rintro n s3 ⟨i,σ3,H3,I3,st3,fr3,w3⟩;rcases turn i n σ3 H3 w3 with⟨stop,qn⟩|⟨go,N,hN,step⟩
 ·refine wpAny_passesOwn hp (thn (T.done X rfl rfl rfl hc i pins s3 σ3 H3 X.xe I3 (stat fr3) st3 stop) ?_);rintro r s4 ⟨hr,I4⟩;subst hr;exact wpAny_execs_nil ⟨σ3,H3,I4,qn⟩
 ·refine wpAny_passesOwn hp (thn (T.item X rfl rfl rfl hc i pins s3 σ3 H3 X.xe I3 (stat fr3) st3 go) ?_);rintro r s4 ⟨u,hr,h4⟩;subst hr;refine wpAny_passesOwn hp (thn h4 ?_);rintro _ s5 ⟨x,H5,I5,r5,y5,st5,fr5⟩;have I5':=I5.pinned (stat fr5) (T.obj _ _ st5);refine wpAny_passesOwn hp (thn (hg _ s5 σ3 H5 x u _ I5' r5 (step x H5 y5)) ?_);rintro _ s6 ⟨σ6,H6,I6,q6⟩;refine wpAny_passesOwn hp (thn (hb _ s6 σ6 H6 _ I6 q6) λf s7 q7=>?_);have again:∀ {σ7:St}{H7:Hp},Inv X (pins++uc fp s5.heap) σ7 H7 s7->N σ7 H7->∃ m,m<n/\∃ i σ' H',Inv X pins σ' H' s7/\tn i s7.heap/\(∀ b∈fp,H' b=none)/\W i m σ' H':=λ{σ7 H7} I7 n7=>by
   obtain⟨m',hm,w7⟩:=hN σ7 H7 n7;refine⟨m',hm,i+1,σ7,H7,I7.ji,T.keep _ _ _ st5 λb hb o e=>(I7.pin (b,o) (Zaq _ (Zaq _ (kh hb e)))).1,λb hb=>?_,w7⟩;obtain⟨o,e,d⟩:=T.obj _ _ st5 b hb;exact(I7.pin (b,o) (Zaq _ (Zaq _ (kh hb e)))).2.1
  cases f with
  |next=>obtain⟨σ7,H7,I7,n7⟩:=q7;exact again I7 n7
  |cont=>obtain⟨σ7,H7,I7,n7⟩:=q7;exact again I7 n7
  |brk=>obtain⟨σ7,H7,I7,q7⟩:=q7;exact⟨σ7,H7,I7.ji,q7⟩
  |ret v=>obtain⟨x7,σ7,H7,I7,r7,q7⟩:=q7;exact⟨x7,σ7,H7,I7.ji,r7,q7⟩
end
noncomputable abbrev R2:=V->V->Hp->VK->Prop
def OpR(X:Cx)(f:Value->Value->Sem Value)(r:R2):Prop:=
 ∀ (pins:List (Addr×Obj)) (s:Shared) (σ:St) (H:Hp) (x y:V) (v u:Value) (Q:VK),Inv X pins σ H s->RelV x v->RelV y u->r x y H Q ->
  wpAny (model X.prog X.w) X.A (f v u) (EP X pins σ Q) X.xe s
def oE(X:Cx)(f:Value)(r:List V->Hp->VK->Prop):Prop:=
 ∀ (pins:List (Addr×Obj)) (s:Shared) (σ:St) (H:Hp) (xs:List V) (us:List Value) (Q:VK),Inv X pins σ H s->Vals xs us->r xs H Q ->
  wpAny (model X.prog X.w) X.A (call f us) (EP X pins σ Q) X.xe s
def tOp(r:R2)(ta tb:TE):TE:=λσ H Q=>ta σ H λx H1=>tb σ H1 λy H2=>r x y H2 Q
def rI(C:Int->Int->Prop)(g:Int->Int->V):R2:=λx y H Q=>∃ i j,x=.int i/\y=.int j/\C i j/\Q (g i j) H
def rI0(g:Int->Int->V):R2:=λx y H Q=>∃ i j,x=.int i/\y=.int j/\Q (g i j) H
section
variable{X:Cx}{a b:Expr}{ta tb:TE}{pos:Pos}
theorem PK(ha:PE X a ta)(hb:PE X b tb){pins:List (Addr×Obj)}{s:Shared}{σ:St}{H:Hp}{R:V->V->Hp->Prop}(I:Inv X pins σ H s)
  (h:ta σ H λx H1=>tb σ H1 λy H2=>R x y H2){Q:Value->Shared->Prop}{f:Value->Value->Sem Value}
  (hf:∀ v u s2 x y H2,Inv X pins σ H2 s2->RelV x v->RelV y u->R x y H2->wpAny (model X.prog X.w) X.A (f v u) Q X.xe s2) :
  wpAny (model X.prog X.w) X.A (eval a X.env) (λv s₁=>wpAny (model X.prog X.w) X.A (eval b X.env) (λu s₂=>wpAny (model X.prog X.w) X.A (f v u) Q X.xe s₂) X.xe s₁) X.xe s:=by
 refine thn (ha pins s σ H _ I h) ?_;rintro v s1 ⟨x,H1,I1,r1,q1⟩;refine thn (hb pins s1 σ H1 _ I1 q1) ?_;rintro u s2 ⟨y,H2,I2,r2,q2⟩;exact hf v u s2 x y H2 I2 r1 r2 q2
theorem aO{op:Operator}{r:R2}(ho:OpR X (binaryOp op) r)(ha:PE X a ta)(hb:PE X b tb):PE X (.BinOp a op b pos) (tOp r ta tb):=by
 intro pins s σ H Q I h;exact wpAny_BinOp (PK ha hb I h λv u s2 x y H2 I2 rx ry q=>ho pins s2 σ H2 x y v u Q I2 rx ry q)
theorem opI{f:Value->Value->Sem Value}{C:Int->Int->Prop}{g:Int->Int->Int}
  (rule:∀ (i j:Int) (t u:Tok) (s:Shared) (Q:Value->Shared->Prop) (E:Value->Shared->Prop),C i j->Q (.int (g i j) s.toks) { s with toks:=s.toks+1 }->wpAny (model X.prog X.w) X.A (f (.int i t) (.int j u)) Q E s) :
  OpR X f (rI C λi j=>.int (g i j)):=by
 intro pins s σ H x y v u Q I rx ry h;obtain⟨i,j,rfl,rfl,hc,q⟩:=h;obtain⟨t,rfl⟩:=rx;obtain⟨t',rfl⟩:=ry;exact rule i j t t' s _ _ hc ⟨.int (g i j),H,I.tok _,⟨_,rfl⟩,q⟩
theorem Lg{f:Value->Value->Sem Value}{g:Int->Int->Int}
  (rule:∀ (i j:Int) (t u:Tok) (s:Shared) (Q:Value->Shared->Prop) (E:Value->Shared->Prop),Q (.int (g i j) s.toks) { s with toks:=s.toks+1 }->wpAny (model X.prog X.w) X.A (f (.int i t) (.int j u)) Q E s) :
  OpR X f (rI0 λi j=>.int (g i j)):=by
 intro pins s σ H x y v u Q I rx ry h;obtain⟨i,j,rfl,rfl,q⟩:=h;obtain⟨t,rfl⟩:=rx;obtain⟨t',rfl⟩:=ry;exact rule i j t t' s _ _ ⟨.int (g i j),H,I.tok _,⟨_,rfl⟩,q⟩
theorem Lh{f:Value->Value->Sem Value}{g:Int->Int->Bool}
  (rule:∀ (i j:Int) (t u:Tok) (s:Shared) (Q:Value->Shared->Prop) (E:Value->Shared->Prop),Q (.bool (g i j)) s->wpAny (model X.prog X.w) X.A (f (.int i t) (.int j u)) Q E s) :
  OpR X f (rI0 λi j=>.bl (g i j)):=by
 intro pins s σ H x y v u Q I rx ry h;obtain⟨i,j,rfl,rfl,q⟩:=h;obtain⟨t,rfl⟩:=rx;obtain⟨t',rfl⟩:=ry;exact rule i j t t' s _ _ ⟨.bl (g i j),H,I,rfl,q⟩
def PL(i j:Int):Prop:=0<j/\j<1073741824
def IW(i j:Int):Prop:=0<=j/\j<=1000000/\i.natAbs<2^64
def Cj(i j:Int):Prop:=(-(2^64)<i/\i<2^64)\/(-(2^64)<j/\j<2^64)
theorem Cj.ok{i j:Int}(h:Cj i j):IntMulOk i j:=by
 rcases h with⟨h1,h2⟩|⟨h1,h2⟩
 ·exact .of_left (intBits_le_64 h1 h2)
 ·exact .of_right (intBits_le_64 h1 h2)
theorem Ck(k:Nat):(0:Int)<=2^k:=by
 rw[two_pow_cast];exact Zbw _
theorem PN:OpR X (binaryOp .Add) (rI0 λi j=>.int (i+j)):=Lg λ_ _ _ _ _ _ _ q=>add_int q
theorem PP:OpR X (binaryOp .Sub) (rI0 λi j=>.int (i-j)):=Lg λ_ _ _ _ _ _ _ q=>sub_int q
theorem PQ:OpR X (binaryOp .Mult) (rI Cj λi j=>.int (i*j)):=opI λ_ _ _ _ _ _ _ hc q=>mul_int q hc.ok
theorem di:OpR X (binaryOp .FloorDiv) (rI PL λi j=>.int (i/j)):=opI λi j _ _ _ _ _ hc q=>by
 have h1:(0:Int)<j:=hc.1;have h2:j<1073741824:=hc.2;exact floordiv_int (by omega) (by rw[Int.fdiv_eq_ediv_of_nonneg i (by omega)];exact q) (.inl (PyProof.noPylong_small (by omega)))
theorem cJ:OpR X (binaryOp .Mod) (rI (λ_ j=>0<j) λi j=>.int (i%j)):=opI λi j _ _ _ _ _ hc q=>by
 have h1:(0:Int)<j:=hc;exact mod_int' (by omega) (by rw[Int.fmod_eq_emod_of_nonneg i (by omega)];exact q)
theorem oV:OpR X (binaryOp .Pow) (rI IW λi j=>.int (i^j.toNat)):=opI λ_ _ _ _ _ _ _ hc q=>pow_int_small hc.1 hc.2.1 hc.2.2 q
theorem wQ:OpR X (binaryOp .LShift) (rI IW λi j=>.int (i*2^j.toNat)):=opI λ_ _ _ _ _ _ _ hc q=>lshift_int_small hc.1 hc.2.1 hc.2.2 q
theorem Ja:OpR X (binaryOp .RShift) (rI (λ_ j=>0<=j) λi j=>.int (i/2^j.toNat)):=opI λi j _ _ _ _ _ hc q=>
 rshift_int hc (by rw[Int.fdiv_eq_ediv_of_nonneg i (Ck _)];exact q)
theorem Qa:OpR X (binaryOp .BitAnd) (rI0 λi j=>.int (Builtin.bitAnd i j)):=Lg λ_ _ _ _ _ _ _ q=>and_int q
theorem Oi:OpR X (binaryOp .BitOr) (rI0 λi j=>.int (Builtin.bitOr i j)):=Lg λ_ _ _ _ _ _ _ q=>or_int q
end
section
variable{X:Cx}{a b c:Expr}{ta tb:TE}{pos:Pos}
theorem wR{pins:List (Addr×Obj)}{σ:St}{H:Hp}{s:Shared}{Q:VK}{k k':Bool}(I:Inv X pins σ H s)(q:Q (.bl k) H)(e:k=k'):EP X pins σ Q (.bool k') s:=by
 subst e;exact⟨.bl k,H,I,rfl,q⟩
theorem Rp:OpR X (compareOp .Lt) (rI0 λi j=>.bl (decide (i<j))):=Lh λ_ _ _ _ _ _ _ q=>lt_int q
theorem Rq:OpR X (compareOp .LtE) (rI0 λi j=>.bl (decide (i<=j))):=Lh λ_ _ _ _ _ _ _ q=>le_int q
theorem Oj:OpR X (compareOp .Gt) (rI0 λi j=>.bl (decide (j<i))):=Lh λ_ _ _ _ _ _ _ q=>gt_int q
theorem Rr:OpR X (compareOp .GtE) (rI0 λi j=>.bl (decide (j<=i))):=Lh λ_ _ _ _ _ _ _ q=>ge_int q
theorem GK:OpR X (compareOp .Lt) (λx y H Q=>∃ i j,x=.str i/\y=.str j/\Q (.bl (decide (i.cps.toList<j.cps.toList))) H):=by
 intro pins s σ H x y v u Q I rx ry h;obtain⟨i,j,rfl,rfl,q⟩:=h;obtain⟨t,rfl⟩:=rx;obtain⟨t',rfl⟩:=ry;exact lt_str (wR I q rfl)
theorem GP:OpR X (compareOp .In) (λx y H Q=>∃ i j,x=.str i/\y=.str j/\Q (.bl (!(Builtin.Str.occurrences j i 0 j.length 1).isEmpty)) H):=by
 intro pins s σ H x y v u Q I rx ry h;obtain⟨i,j,rfl,rfl,q⟩:=h;obtain⟨t,rfl⟩:=rx;obtain⟨t',rfl⟩:=ry;exact in_str (wR I q rfl)
theorem wU:OpR X (compareOp .NotIn) (λx y H Q=>∃ i j,x=.str i/\y=.str j/\Q (.bl (!(!(Builtin.Str.occurrences j i 0 j.length 1).isEmpty))) H):=by
 intro pins s σ H x y v u Q I rx ry h;obtain⟨i,j,rfl,rfl,q⟩:=h;obtain⟨t,rfl⟩:=rx;obtain⟨t',rfl⟩:=ry;exact notIn_str (wR I q rfl)
theorem OpR.or{f:Value->Value->Sem Value}{r r':R2}(h:OpR X f r)(h':OpR X f r'):OpR X f (λx y H Q=>r x y H Q\/r' x y H Q):=by
 intro pins s σ H x y v u Q I rx ry q;rcases q with q|q
 ·exact h pins s σ H x y v u Q I rx ry q
 ·exact h' pins s σ H x y v u Q I rx ry q
theorem gC(b:Expr){op:CmpOp}(h:op≠.In:=by decide)(h2:op≠.NotIn:=by decide):behindInMarks op b=false:=by
 have e1:(op==CmpOp.In)=false:=by cases op<;>first|rfl|exact absurd rfl h
 have e2:(op==CmpOp.NotIn)=false:=by cases op<;>first|rfl|exact absurd rfl h2
 cases b<;>simp[behindInMarks,e1,e2]
theorem Ea{op:CmpOp}{r:R2}(ho:OpR X (compareOp op) r)(ha:PE X a ta)(hb:PE X b tb)(hm:behindInMarks op b=false):PE X (.Compare a [op] [b] pos) (tOp r ta tb):=by
 intro pins s σ H Q I h;exact wpAny_Compare1 (PK ha hb I h λv u s2 x y H2 I2 rx ry q=>ho pins s2 σ H2 x y v u Q I2 rx ry q) hm
def Ol(t:TE):TT:=λσ H Q=>t σ H λx H'=>∃ k,x=.bl k/\Q k H'
theorem eE{op:CmpOp}{r:R2}(ho:OpR X (compareOp op) r)(ha:PE X a ta)(hb:PE X b tb)(hm:behindInMarks op b=false):PT X (.Compare a [op] [b] pos) (Ol (tOp r ta tb)):=by
 intro pins s σ H Q I h;refine wpAny_isTrue_Compare1 (thn (ha pins s σ H _ I h) λv s1 ⟨x,H1,I1,r1,q1⟩=>thn (hb pins s1 σ H1 _ I1 q1) λu s2 ⟨y,H2,I2,r2,q2⟩=>
  thn (ho pins s2 σ H2 x y v u _ I2 r1 r2 q2) λc s3 ⟨z,H3,I3,r3,k,e,q3⟩=>?_) hm
 subst e;cases r3;exact wpAny_truthy_bool ⟨H3,I3,q3⟩
theorem wV:(sizeLine:Nat)<2^63:=by rw[sizeLine_eq];decide
theorem Cm:OpR X (binaryOp .Add) (λx y H Q=>∃ i j,x=.str i/\y=.str j/\i.length+j.length<=sizeLine/\Q (.str (i++j)) H):=by
 intro pins s σ H x y v u Q I rx ry h;obtain⟨i,j,rfl,rfl,hz,q⟩:=h;obtain⟨t,rfl⟩:=rx;obtain⟨t',rfl⟩:=ry;exact add_str (λt' tk=>⟨.str (i++j),H,I.tok _,⟨_,rfl⟩,q⟩) hz
theorem vals1{x:V}{us:List Value}(r:Vals [x] us):∃ u,us=[u]/\RelV x u:=by
 cases r with
 |cons r1 r2=>cases r2;exact⟨_,rfl,r1⟩
theorem yQ:oE X (.builtin "abs") (λxs H Q=>∃ i,xs=[.int i]/\Q (.int (if i<0 then -i else i)) H):=by
 intro pins s σ H xs us Q I r h;obtain⟨i,rfl,q⟩:=h;obtain⟨u,rfl,t,rfl⟩:=vals1 r;exact call_abs_int λu tk=>⟨.int (if i<0 then -i else i),H,I.tok _,⟨_,rfl⟩,q⟩
def Qc(K:Frag)(x:V)(H:Hp)(n:Nat):Prop:=
 match x with
 |.str y=>y.length<=sizeLine/\n=y.length
 |.byt y=>y.size<=sizeLine/\n=y.size
 |.ref p=>(∃ xs,SqL K H p xs/\n=xs.length)\/∃ xs,SqT K H p xs/\n=xs.length
 |_=>False
theorem dG:oE X (.builtin "len") (λxs H Q=>∃ x n,xs=[x]/\Qc X.K x H n/\Q (.int n) H):=by
 intro pins s σ H xs us Q I r h;obtain⟨x,n,rfl,e,q⟩:=h;obtain⟨u,rfl,rx⟩:=vals1 r;have hl:=wV;have hs:sizeLine=16777216:=sizeLine_eq;cases x with
 |str y=>
  obtain⟨t,rfl⟩:=rx;obtain⟨hy,e'⟩:y.length<=sizeLine/\n=y.length:=e;subst e';exact len_str (by lia) ⟨.int _,H,I.tok _,⟨_,rfl⟩,q⟩
 |byt y=>
  obtain⟨t,rfl⟩:=rx;obtain⟨hy,e'⟩:y.size<=sizeLine/\n=y.size:=e;subst e';exact PySem.W.len_bytes (by lia) ⟨.int _,H,I.tok _,⟨_,rfl⟩,q⟩
 |ref p=>
  cases rx;have e':(∃ xs,SqL X.K H p xs/\n=xs.length)\/∃ xs,SqT X.K H p xs/\n=xs.length:=e;rcases e' with⟨xs,hx,e'⟩|⟨xs,hx,e'⟩
  ·subst e';obtain⟨its,r',pl,hz⟩:=I.list hx;have hlen:=r'.length;exact Calls.call_len_list pl.isList (by simp only[List.size_toArray];lia) ⟨.int xs.length,H,I.tok _,⟨_,by simp only[List.size_toArray];rw[hlen]⟩,q⟩
  ·subst e';obtain⟨its,r',pl,hz⟩:=I.tuple hx;have hlen:=r'.length;exact len_tuple pl (by simp only[List.size_toArray];lia) ⟨.int xs.length,H,I.tok _,⟨_,by simp only[List.size_toArray];rw[hlen]⟩,q⟩
 |_=>exact(show False from e).elim
end
theorem tW.some_of{v:V}{o:Option Value}(r:tW (some v) o):∃ u,o=some u/\RelV v u:=by
 cases o with
 |none=>exact(show False from r).elim
 |some u=>exact⟨u,rfl,r⟩
structure dH(k:Nat)(A:Around):Prop where
 hd:A.handled=none
 dp:A.depth+3*k+5<recursionLimit
 un:A.units+16*k+200<cLine
theorem dH.mono{j k:Nat}{A:Around}(r:dH k A)(h:j<=k):dH j A:=⟨r.hd,by have:=r.dp;lia,by have:=r.un;lia⟩
theorem dH.deeper{k:Nat}{A:Around}(r:dH (k+1) A)(env:Env):dH k (A.deeper env):=
 ⟨r.hd,by have:=r.dp;show A.depth+1+3*k+5<_;lia,by have:=r.un;show A.units+3+16*k+200<_;lia⟩
theorem dH.in1{k:Nat}{A:Around}(r:dH (k+1) A):dH k A.in1:=
 ⟨r.hd,by have:=r.dp;show A.depth+3*k+5<_;omega,by have:=r.un;show A.units+1+16*k+200<_;omega⟩
theorem dH.depth{k:Nat}{A:Around}(r:dH k A):A.depth<recursionLimit:=by have:=r.dp;omega
theorem dH.units{k:Nat}{A:Around}(r:dH k A):A.units+64<cLine:=by have:=r.un;omega
def yR:TA:=λ_ H Q=>Q [] H
def ud(ta:TE)(tr:TA):TA:=λσ H Q=>ta σ H λx H1=>tr σ H1 λxs H2=>Q (x::xs) H2
section
variable{X:Cx}{e:Expr}{es:List Expr}{te:TE}{t:TA}{pos:Pos}
theorem au:PA X [] yR:=λ_ _ _ _ H Q I h=>Calls.spliced_nil ⟨[],H,I,.nil,h⟩
theorem aj(ha:PE X e te)(hr:PA X es t)(hs:starEach (e::es) X.env=(false,eval e X.env)::starEach es X.env:=by rfl):PA X (e::es) (ud te t):=by
 intro pos pins s σ H Q I h;rw[hs];show wpAny _ _ (spliced ((false,eval e X.env)::backTo pos (starEach es X.env))) _ _ s
 refine Calls.spliced_cons (thn (ha pins s σ H _ I h) ?_);rintro u s1 ⟨x,H1,I1,r1,q1⟩;exact thn (hr pos pins s1 σ H1 _ I1 q1) λus s2 ⟨xs,H2,I2,r2,q2⟩=>⟨x::xs,H2,I2,.cons r1 r2,q2⟩
def Rt(t:TA):TE:=λσ H Q=>t σ H λxs H1=>xs.length<=sizeLine/\∀ p,H1 p=none->Q (.ref p) (upd H1 p (.tup xs))
def Qd(t:TA):TE:=λσ H Q=>t σ H λxs H1=>xs.length<=sizeLine/\∀ p,H1 p=none->Q (.ref p) (upd H1 p (.lst xs))
theorem d7{x1}(h:PA X es t):PE X (.Tuple es x1 pos) (Rt t):=by
 intro pins s σ H Q I hq;refine wpAny_Tuple_spliced (thn (h pos pins s σ H _ I hq) λus s1 ⟨xs,H1,I1,r,z,q⟩=>⟨by rw[<-r.length];exact z,?_⟩)
 have hf:H1 s1.heap.objs.size=none:=I1.hok.fresh (Zag _);refine⟨.ref s1.heap.objs.size,upd H1 s1.heap.objs.size (.tup xs),I1.laid (t':=s1.toks) (λb u e=>Zaf _ e) (Zag _) ?_,rfl,q _ hf⟩;exact⟨z,us,r,fP.mk (Zax _ rfl)⟩
theorem oW(h:PA X es t):PE X (.List es pos) (Qd t):=by
 intro pins s σ H Q I hq;refine wpAny_List_spliced (thn (h pos pins s σ H _ I hq) λus s1 ⟨xs,H1,I1,r,z,q⟩=>⟨by rw[<-r.length];exact z,?_⟩)
 have hf:H1 s1.heap.objs.size=none:=I1.hok.fresh (Zag _);refine⟨.ref s1.heap.objs.size,upd H1 s1.heap.objs.size (.lst xs),I1.laid (t':=s1.toks) (λb u e=>Zaf _ e) (Zag _) ?_,rfl,q _ hf⟩;exact⟨z,us,0,r,Zax _ rfl⟩
end
noncomputable abbrev Sp:=List V->Hp->VK->XK->Prop
noncomputable abbrev CXT:=List Env->Hp->Shared->XK->Value->Shared->Prop
structure Li(P:Program)(w:World)(K:Frag)(mg:Str->Option Value)(base:Heap)(A:Around)(outer:List Env)(s:Shared)(H:Hp):Prop where
 frames:A.frames=some outer
 mod:Mod K mg base
 bs:∀ b o,base.get? b=some o->s.heap.get? b=some o/\H b=none
 bsz:base.objs.size<=s.heap.objs.size
 pK:s.heap.FunFrames base outer
 frf:∀ b∈frs outer,H b=none
 hok:HOk P w H s.heap
 bare:AllBare s.gens
def CE(outer:List Env)(P:Program)(w:World)(H:Hp)(s:Shared)(Q:VK)(u:Value)(s':Shared):Prop:=
 ∃ v H',s'.os=s.os/\AllBare s'.gens/\Un (frs outer) [] H H' s.heap s'.heap/\HOk P w H' s'.heap/\RelV v u/\Q v H'
def CR(CX:CXT)(outer:List Env)(P:Program)(w:World)(H:Hp)(s:Shared)(Q:VK)(E:XK)(r:Result)(s':Shared):Prop:=
 match r with
 |.ok (.ret u)=>CE outer P w H s Q u s'
 |.ok _=>False
 |.error e=>CX outer H s E e s'
structure vA(P:Program)(w:World)(K:Frag)(mg:Str->Option Value)(base:Heap)(CX:CXT)(k:Nat)(f:Addr)(fd:FuncData)(ps:List Str)(sp:Sp):Prop where
 len:∀ vs H Q E,sp vs H Q E->vs.length=ps.length
 run:∀ (A:Around) (outer:List Env) (s:Shared) (H:Hp) (args:Args) (us:List Value) (vs:List V) (Q:VK) (E:XK),dH k A->Li P w K mg base A outer s H->BindsTo s fd args (ps.zip us)->Vals vs us->sp vs H Q E ->
  codeAny (model P w) A (.call (.ref f) args) (CR CX outer P w H s Q E) s
section
variable{X:Cx}{pins:List (Addr×Obj)}{σ:St}{H:Hp}{s s':Shared}
theorem Inv.env0(I:Inv X pins σ H s):Li X.prog X.w X.K X.mg X.base X.A X.stack s H:=
 ⟨I.ok.frames,I.ok.mod,I.bs,ZaQ I.ok.bsz I.sz,I.stack,I.DX,I.hok,I.bare⟩
theorem Inv.after{Q:VK}{u:Value}(I:Inv X pins σ H s)(h:CE X.stack X.prog X.w H s Q u s'):EP X pins σ Q u s':=by
 obtain⟨v,H',os,bare,un,hok,r,q⟩:=h;obtain⟨hh,g,d,t,os'⟩:=s';obtain rfl:os'=s.os:=os;exact⟨v,H',I.call (h':=hh) (g':=g) (d':=d) (t':=t) (ch:=[]) un hok bare (λb z=>absurd z (by simp)),r,q⟩
end
def ue(sp:Sp)(dvs:List V)(E:XK)(t:TA):TE:=λσ H Q=>t σ H λvs H1=>sp (vs++dvs) H1 Q E
def Binds(K:Frag)(fd:FuncData)(ps:List Str)(ds:List Value):Prop:=
 ∀ (s:Shared) (us:List Value),K.In s.heap->(us++ds).length=ps.length->BindsTo s fd ⟨us,[]⟩ (ps.zip (us++ds))
theorem Binds.all{K:Frag}{fd:FuncData}{ps:List Str}(h:∀ us:List Value,us.length=ps.length->bindArgs fd ⟨us,[]⟩=pure (ps.zip us)):Binds K fd ps []:=λs us _ hl=>by
 rw[ZaM] at hl ⊢;exact .of_eq (h us hl)
def Cp(CX:CXT)(X:Cx)(E:XK):Prop:=∀ (pins:List (Addr×Obj)) (σ:St) (H:Hp) (s:Shared) (e:Value) (s':Shared),Inv X pins σ H s->CX X.stack H s E e s'->X.xe e s'
section
variable{X:Cx}{CX:CXT}{k:Nat}{f:Addr}{fd:FuncData}{ps:List Str}{sp:Sp}{dvs:List V}{ds:List Value}{E:XK}{x:Str}{p pos:Pos}{e:Expr}{es:List Expr}{t:TA}
theorem Qe{pins:List (Addr×Obj)}{σ:St}{H:Hp}{s:Shared}{Q:VK}{us:List Value}{vs:List V}(F:vA X.prog X.w X.K X.mg X.base CX k f fd ps sp)(hr:dH k X.A)(hb:Binds X.K fd ps ds)(hd:Vals dvs ds)(hx:Cp CX X E)
  (I:Inv X pins σ H s)(r:Vals vs us)(h:sp (vs++dvs) H Q E):wpAny (model X.prog X.w) X.A (call (.ref f) us) (EP X pins σ Q) X.xe s:=by
 have r2:Vals (vs++dvs) (us++ds):=r.append hd;have hl:(us++ds).length=ps.length:=by rw[<-r2.length];exact F.len _ _ _ _ h
 refine wpAny_call (codeAny_mono (F.run X.A X.stack s H ⟨us,[]⟩ (us++ds) (vs++dvs) Q E hr I.env0 (hb s us I.kIn hl) r2 h) λr s' hq=>?_);cases r with
 |error e=>exact hx pins σ H s e s' I hq
 |ok fl=>
  cases fl with
  |ret u=>exact I.after hq
  |next=>exact False.elim hq
  |brk=>exact False.elim hq
  |cont=>exact False.elim hq
theorem Lj(F:vA X.prog X.w X.K X.mg X.base CX k f fd ps sp)(hr:dH k X.A)(hg:Gl X x)(hm:X.mg x=some (.ref f))(hk:keepIn X.K (.ref f)=true)(hb:Binds X.K fd ps ds)(hd:Vals dvs ds)(hx:Cp CX X E)
  (ha:PA X (e::es) t)(hdb:(x==("__debug__":Str))=false:=by decide)(he:starEach (e::es) X.env=(false,eval e X.env)::starEach es X.env:=by rfl)(hpl:(backTo pos (starEach es X.env)).any (·.1)=false:=by rfl) :
  PE X (.Call (.Name x p) (e::es) [] pos) (ue sp dvs E t):=by
 intro pins s σ H Q I h;refine wpAny_Call_Name_kw (DY I hg hm ?_ hdb);refine PySem.W.callWith_K (h₀:=X.base) I.ok.mod.kin hk (thn (ha pos pins s σ H _ I h) λus s1 ⟨vs,H1,I1,r,q⟩=>⟨I1.kIn,?_⟩) he hpl;exact Qe F hr hb hd hx I1 r q
end
structure bf(N P:List Str)(sc:Scope):Prop where
 kind:sc.kind=.function
 co:sc.isCoroutine=false
 gen:sc.isGenerator=false
 nd:N.Nodup
 pre:N.take P.length=P
 par:∀ x∈P,sc.names.lookup x=some .local\/sc.names.lookup x=some .cell
 nofree:∀ y∈sc.names,y.2≠.free
theorem vR{kindOf:Str->Option NameKind}{x:Str}:∀ {binds:List (Str×Value)}{m:Str->Option Value},(∀ v,(x,v) ∉ binds)->bindL kindOf binds m x=m x
 |[],_,_=>rfl
 |(n,v)::r,m,h=>by
  unfold bindL;rw[vR λw hw=>h w (List.mem_cons_of_mem _ hw)];split
  ·have:x≠n:=by rintro rfl;exact h v List.mem_cons_self
   simp[this]
  ·rfl
theorem vU{kindOf:Str->Option NameKind}{x:Str}:∀ {binds:List (Str×Value)}{m:Str->Option Value},(∀ v,(x,v) ∉ binds)->bindC kindOf binds m x=m x
 |[],_,_=>rfl
 |(n,v)::r,m,h=>by
  unfold bindC;rw[vU λw hw=>h w (List.mem_cons_of_mem _ hw)];split
  ·rfl
  ·have:x≠n:=by rintro rfl;exact h v List.mem_cons_self
   simp[this]
theorem vV{kindOf:Str->Option NameKind}{x:Str}{v:Value}:∀ {P:List Str}{vs:List Value}{i:Nat}{m:Str->Option Value},P.Nodup->P[i]?=some x->vs[i]?=some v->kindOf x=some .local ->
  bindL kindOf (P.zip vs) m x=some v
 |[],_,_,_,_,h,_,_=>by simp at h
 |_::_,[],_,_,_,_,h,_=>by simp at h
 |p::P,w::vs,0,m,nd,h1,h2,hk=>by
  simp at h1 h2;subst h1;subst h2;show bindL kindOf ((p,w)::P.zip vs) m p=_
  unfold bindL;rw[vR λv hv=>(ZbK.mp nd).1 (List.of_mem_zip hv).1,Zah hk];simp
 |p::P,w::vs,i+1,m,nd,h1,h2,hk=>by
  show bindL kindOf ((p,w)::P.zip vs) m x=_
  unfold bindL;exact vV (i:=i) (ZbK.mp nd).2 (by simpa using h1) (by simpa using h2) hk
theorem vW{kindOf:Str->Option NameKind}{x:Str}{v:Value}:∀ {P:List Str}{vs:List Value}{i:Nat}{m:Str->Option Value},P.Nodup->P[i]?=some x->vs[i]?=some v->kindOf x≠some .local ->
  bindC kindOf (P.zip vs) m x=some v
 |[],_,_,_,_,h,_,_=>by simp at h
 |_::_,[],_,_,_,_,h,_=>by simp at h
 |p::P,w::vs,0,m,nd,h1,h2,hk=>by
  simp at h1 h2;subst h1;subst h2;show bindC kindOf ((p,w)::P.zip vs) m p=_
  unfold bindC;rw[vU λv hv=>(ZbK.mp nd).1 (List.of_mem_zip hv).1,Zai hk];simp
 |p::P,w::vs,i+1,m,nd,h1,h2,hk=>by
  show bindC kindOf ((p,w)::P.zip vs) m x=_
  unfold bindC;exact vW (i:=i) (ZbK.mp nd).2 (by simpa using h1) (by simpa using h2) hk
def start(N:List Str)(vs:List V):St:=vs.map some++List.replicate (N.length-vs.length) none
def sE(CX:CXT)(P:Program)(w:World)(K:Frag)(mg:Str->Option Value)(base:Heap)(N:List Str)(qual:Str)(scope:Scope)(f:Addr)(cd:Value)(A:Around)(outer:List Env)(s:Shared)(H:Hp)(E:XK):Cx where
 prog:=P
 w:=w
 K:=K
 mg:=mg
 base:=base
 A:=A.deeper (envOfC qual scope s.heap.objs.size f cd)
 N:=N
 s₀:=s
 H₀:=H
 env:=envOfC qual scope s.heap.objs.size f cd
 outer:=outer
 stack:=envOfC qual scope s.heap.objs.size f cd::outer
 ex:=[]
 calm:=true
 fn:=λ_=>true
 pn:=[]
 xe:=λe s'=>wpAny (model P w) (A.deeper (envOfC qual scope s.heap.objs.size f cd)) (leaving (envOfC qual scope s.heap.objs.size f cd) e) (λ_ s''=>CX outer H s E e s'') (λe' s''=>CX outer H s E e' s'') s'
theorem yS{sc:Scope}{n:Nat}{x:Str}(h:sc.names.lookup x=some .cell):∃ c,(cellsFrom n sc.names []).lookup x=some c:=by
 have q:=PySem.W.cellsFrom_some sc.names n [] (.inl h);exact Option.isSome_iff_exists.mp q
theorem vX{CX:CXT}{P:Program}{w:World}{K:Frag}{mg:Str->Option Value}{base:Heap}{N ps:List Str}{qual:Str}{scope:Scope}{f:Addr}{cd:Value}{A:Around}{outer:List Env}{s s1:Shared}{H:Hp}{E:XK}{us:List Value}{vs:List V}
  (S:bf N ps scope)(hd:A.handled=none)(e0:Li P w K mg base A outer s H)(hl:vs.length=ps.length)(r:Vals vs us)
  (x:InCallC s s.heap.objs.size (bindL (envOfC qual scope s.heap.objs.size f cd).kindOf (ps.zip us) λ_=>none) (cellsFrom (s.heap.objs.size+1) scope.names []) (bindC (envOfC qual scope s.heap.objs.size f cd).kindOf (ps.zip us) λ_=>none) s1) :
  Inv (sE CX P w K mg base N qual scope f cd A outer s H E) [] (start N vs) H s1:=by
 have hpl:ps.length<=N.length:=by have:=ZbJ List.length S.pre;rw[Zbu] at this;lia
 obtain⟨h1,tk,rfl,hk⟩:=x.done;have noA:∀ b:Addr,b ∉ (sE CX P w K mg base N qual scope f cd A outer s H E).ex:=λb z=>absurd (show b∈([]:List Addr) from z) (by simp)
 refine⟨⟨e0.mod,S.kind,rfl,rfl,Zag _,λy z c h1 h2=>?_,λy hy=>?_,λy c _ h=>?_,λ_=>hd,Around.frames_deeper e0.frames,.inr ⟨rfl,rfl⟩,λb z=>absurd z (noA b),e0.bs,e0.bsz,λb _ _=>noA b,λb z=>absurd z (noA b),e0.pK,e0.frf⟩,
  rfl,e0.bare,Un.kept hk,⟨_,x.toInCall.ns,λi y v h1 h2 h3=>?_⟩,λy c h=>⟨_,x.cell y c h⟩,e0.hok.fresh (Zag _),λy c h=>?_,λp hp=>absurd (show p∈([]:List (Addr×Obj)) from hp) (by simp),e0.hok.kept hk,?_⟩
 ·exact name_of_addr x.apart (ZbB h1) (ZbB h2)
 ·have hy:scope.names.lookup y=some .cell\/scope.names.lookup y=some .free:=hy;rcases hy with hy|hy
  ·exact yS hy
  ·exact absurd rfl (S.nofree _ (ZbB hy))
 ·exact ZaF (x.above y c (ZbB h))
 ·have hi:i<vs.length:=by
   unfold start at h2;by_cases hi:i<vs.length
   ·exact hi
   ·rw[Zaw (by simpa using hi)] at h2
    rw[Zbq] at h2;split at h2<;>cases h2
  have ha:vs[i]?=some v:=by
   unfold start at h2;rw[Zav (by simpa using hi),Zac] at h2
   cases e:vs[i]? with
   |none=>rw[e] at h2;cases h2
   |some a=>rw[e] at h2;cases h2;rfl
  obtain⟨u,hu,rv⟩:=r.get ha;have hp:ps[i]?=some y:=by
   rw[<-S.pre,List.getElem?_take_of_lt (by lia)];exact h1
  have ndP:ps.Nodup:=by rw[<-S.pre];exact S.nd.sublist (ZaS _ _)
  refine⟨u,rv,?_⟩;rcases S.par y (ZaC hp) with k|k
  ·exact .inl ⟨k,vV ndP hp hu k⟩
  ·obtain⟨c,e⟩:=yS (n:=s.heap.objs.size+1) k;refine .inr ⟨.inl k,c,e,?_⟩;have q:=x.cell y c e;rw[vW ndP hp hu (by show scope.names.lookup y≠_;rw[k];decide)] at q
   exact q
 ·exact e0.hok.fresh (ZaF (x.above y c (ZbB h)))
 ·unfold start;show _=N.length
  rw[List.length_append,List.length_map,List.length_replicate];lia
theorem Om{CX:CXT}{P:Program}{w:World}{K:Frag}{mg:Str->Option Value}{base:Heap}{k:Nat}{f:Addr}{name qual:Str}{params:Arguments}{body:List Stmt}{scope:Scope}{dV kV doc pm cdv ct oc:Value}{an od:Option Addr}
  {osl:Array (Option Value)}{N ps:List Str}{sp:Sp}(lk:K.lookup f=some ⟨oc,od,.func (fnOf name qual params body scope dV kV doc pm an cdv ct),osl⟩)(hcd:codeIn K cdv qual=true)(S:bf N ps scope)
  (len:∀ vs H Q E,sp vs H Q E->vs.length=ps.length)
  (hbody:∀ (A:Around) (outer:List Env) (s:Shared) (H:Hp) (vs:List V) (Q:VK) (E:XK),dH k (A.deeper (envOfC qual scope s.heap.objs.size f cdv))->sp vs H Q E ->
   ∃ t,PSs (sE CX P w K mg base N qual scope f cdv A outer s H E) body t/\t { nx:=λ_ H'=>Q .non H',rt:=Q } (start N vs) H) :
  vA P w K mg base CX (k+1) f (fnOf name qual params body scope dV kV doc pm an cdv ct) ps sp:=by
 refine⟨len,λA outer s H args us vs Q E hr e0 hb r hsp=>?_⟩;have hl:=len _ _ _ _ hsp;have KX:K.In s.heap:=e0.mod.kin.keeps λb o e=>(e0.bs b o e).1;have lim:s.heap.NoLimit:=e0.mod.nolimit.keeps λb o e=>(e0.bs b o e).1;have hkind:∀ y∈ps.zip us,scope.names.lookup y.1=some .local\/(scope.names.lookup y.1=some .cell/\((cellsFrom (s.heap.objs.size+1) scope.names []).lookup y.1).isSome=true):=λ⟨n,v⟩ hy=>by
  rcases S.par n (List.of_mem_zip hy).1 with q|q
  ·exact .inl q
  ·exact .inr ⟨q,PySem.W.cellsFrom_some _ _ _ (.inl q)⟩
 refine codeAny_call_function hr.depth (KX _ _ lk) rfl S.co S.gen rfl (PySem.W.codeRec_of KX hcd) (hb _ _ _ _ ?_);refine wpAny_newFunctionEnv_cells S.kind hkind λenv he s1 x=>?_;subst he;refine⟨lim.keeps x.toInCall.keep,codeAny_func ?_⟩;obtain⟨t,ht,hq⟩:=hbody A outer s H vs Q E (hr.deeper _) hsp;have I:Inv (sE CX P w K mg base N qual scope f cdv A outer s H E) [] (start N vs) H s1:=vX S hr.hd e0 hl r x;refine Za9 (ht [] s1 (start N vs) H _ I hq) (λfl s' hs=>?_) λe s' hs=>hs;have fin:∀ {σ':St}{H':Hp}{v:V}{u:Value},Inv (sE CX P w K mg base N qual scope f cdv A outer s H E) [] σ' H' s'->RelV v u->Q v H'->CE outer P w H s Q u s':=
  λ{σ' H' v u} J rv q=>⟨v,H',J.os,J.bare,J.base,J.hok,rv,q⟩
 cases fl with
 |ret u=>
  obtain⟨v,σ',H',J,rv,q⟩:=hs;exact fin J rv q
 |next=>
  obtain⟨σ',H',J,q⟩:=hs;exact fin (v:=V.non) (u:=Value.none) J rfl q
 |brk=>
  obtain⟨_,_,_,q⟩:=hs;exact False.elim q
 |cont=>
  obtain⟨_,_,_,q⟩:=hs;exact False.elim q
section
variable{X:Cx}{x:Str}{p pos:Pos}{e:Expr}{es:List Expr}{t:TA}{id T:String}{r:List V->Hp->VK->Prop}
def tCB(r:List V->Hp->VK->Prop)(t:TA):TE:=λσ H Q=>t σ H λvs H1=>r vs H1 Q
theorem cg(hc:oE X (.builtin id) r)(hg:Gl X x)(hm:X.mg x=none)(hv:bootBuiltins x=some (.builtin id))(ha:PA X (e::es) t)(hn:x≠"__name__":=by decide)(hdb:(x==("__debug__":Str))=false:=by decide)
  (he:starEach (e::es) X.env=(false,eval e X.env)::starEach es X.env:=by rfl)(hpl:(backTo pos (starEach es X.env)).any (·.1)=false:=by rfl):PE X (.Call (.Name x p) (e::es) [] pos) (tCB r t):=by
 intro pins s σ H Q I h;refine wpAny_Call_Name_kw (tZ I hg hm hv ?_ hn hdb);exact PyProof.Rows.callWith_builtin1 (thn (ha pos pins s σ H _ I h) λus s1 ⟨vs,H1,I1,r1,q1⟩=>hc pins s1 σ H1 vs us Q I1 r1 q1) he hpl
theorem jQ(hc:oE X (.type T) r)(hg:Gl X x)(hm:X.mg x=none)(hv:bootBuiltins x=some (.type T))(ha:PA X (e::es) t)(hn:x≠"__name__":=by decide)(hdb:(x==("__debug__":Str))=false:=by decide)
  (he:starEach (e::es) X.env=(false,eval e X.env)::starEach es X.env:=by rfl)(hpl:(backTo pos (starEach es X.env)).any (·.1)=false:=by rfl):PE X (.Call (.Name x p) (e::es) [] pos) (tCB r t):=by
 intro pins s σ H Q I h;refine wpAny_Call_Name_kw (tZ I hg hm hv ?_ hn hdb);exact PyProof.Rows.callWith_type1 (thn (ha pos pins s σ H _ I h) λus s1 ⟨vs,H1,I1,r1,q1⟩=>hc pins s1 σ H1 vs us Q I1 r1 q1) he hpl
end
end L2
namespace HT
open PySem PyProof.Rows
theorem Jb(A:Around)(s:Shared)(a:Int)(t:Tok)(c:Int)(u:Tok)(prog:Program)(w:World)(E:Value->Shared->Prop)(Q:Value->Shared->Prop)(h:Q (.bool (decide (a<c))) s) :
  wpAny (model prog w) A (richCompare .Lt (.int a t) (.int c u)) Q E s:=
 (PyProof.Rows.lt_int h:wpAny (model prog w) A (compareOp .Lt (.int a t) (.int c u)) Q E s)
section
variable{prog:Program}{w:World}{A:Around}{E:Value->Shared->Prop}{s:Shared}
theorem Lk{t b:Addr}{vs ws:List Value}{Q:Value->Shared->Prop}(ht:IsTup s.heap t vs.toArray)(hb:IsTup s.heap b ws.toArray)(hv:vs≠[])
  (h1:ws=[]->Q (.ref t) s)(h2:ws≠[]->Q (.ref s.heap.objs.size) { s with heap:=s.heap.push { cls:=.type "tuple",data:=.seq (vs++ws).toArray } })
  (hsz:vs.length+ws.length<=sizeLine):wpAny (model prog w) A (binaryOp .Add (.ref t) (.ref b)) Q E s:=by
 obtain⟨⟨cls,dd,data,sl⟩,ho,hc,n,hd⟩:=id ht;obtain⟨⟨cls2,dd2,data2,sl2⟩,ho2,hc2,n2,hd2⟩:=id hb;simp only at hc hd hc2 hd2;subst hc hd hc2 hd2;have e:vs.toArray++ws.toArray=(vs++ws).toArray:=by simp
 by_cases hw:ws=[]
 ·exact concat_meets ⟨_,ho,rfl⟩ ⟨_,ho2,rfl⟩ noFill_tuple_add seq_tuple_add PySem.F.slot_tuple_add PySem.F.entry_tuple_add (PySem.F.args_tuple_add_2 _ _)
   (tuple_addW1 t b vs.toArray ws.toArray n n2 dd dd2 sl sl2 (by simpa using hv) (by simp[hw])) ⟨ho,ho2,h1 hw⟩
 ·refine concat_meets ⟨_,ho,rfl⟩ ⟨_,ho2,rfl⟩ noFill_tuple_add seq_tuple_add PySem.F.slot_tuple_add PySem.F.entry_tuple_add (PySem.F.args_tuple_add_2 _ _)
   (tuple_addW2 t b vs.toArray ws.toArray n n2 dd dd2 sl sl2 (by simpa using hv) (by simpa using hw) (by rw[List.size_toArray,List.size_toArray];exact hsz)) ⟨ho,ho2,?_⟩
  rw[e];exact h2 hw
end
end HT
namespace L2
open PySem PySem.Spec PyProof.Rows
noncomputable abbrev TO:=St->Hp->(Option Int->Hp->Prop)->Prop
def PO(X:Cx)(e:Option Expr)(t:TO):Prop:=
 ∀ (pins:List (Addr×Obj)) (s:Shared) (σ:St) (H:Hp) (Q:Option Int->Hp->Prop),Inv X pins σ H s->t σ H Q ->
  wpAny (model X.prog X.w) X.A (evalPart e X.env) (λu s'=>∃ o H',Inv X pins σ H' s'/\IsPart u o/\Q o H') X.xe s
def Eb:TO:=λ_ H Q=>Q none H
def Oo(t:TE):TO:=λσ H Q=>t σ H λx H1=>∃ i,x=.int i/\Q (some i) H1
section
variable{X:Cx}{e:Expr}{te:TE}{lo hi:Option Expr}{tl th:TO}{pos p2:Pos}
theorem Ec:PO X none Eb:=by
 intro pins s σ H Q I h;rw[evalPart_none];exact ZaL ⟨none,H,I,.none,h⟩
theorem Ed(h:PE X e te):PO X (some e) (Oo te):=by
 intro pins s σ H Q I hw;rw[evalPart_some];refine thn (h pins s σ H _ I hw) ?_;rintro u s1 ⟨x,H1,I1,r1,q1⟩;obtain⟨i,rfl,q⟩:=q1;obtain⟨t,rfl⟩:=r1;exact⟨some i,H1,I1,.int i t,q⟩
def SlR(X:Cx)(r:V->Option Int->Option Int->Hp->VK->Prop):Prop:=
 ∀ (pins:List (Addr×Obj)) (s:Shared) (σ:St) (H:Hp) (x:V) (v vl vu:Value) (lo hi:Option Int) (sl:Addr) (Q:VK),Inv X pins σ H s->RelV x v->s.heap.IsSliceOf sl vl vu .none->IsPart vl lo->IsPart vu hi->r x lo hi H Q ->
  ∃ T id,typeLookup (.type T) "__getitem__"=pure (some (.builtin id))/\s.TypeIs v T/\wpAny (model X.prog X.w) X.A (getItem v (.ref sl)) (EP X pins σ Q) X.xe s
def tSl(r:V->Option Int->Option Int->Hp->VK->Prop)(te:TE)(tl th:TO):TE:=λσ H Q=>te σ H λx H1=>tl σ H1 λl H2=>th σ H2 λu H3=>r x l u H3 Q
theorem yU{r:V->Option Int->Option Int->Hp->VK->Prop}(hr:SlR X r)(he:PE X e te)(hl:PO X lo tl)(hu:PO X hi th):PE X (.Subscript e (.Slice lo hi none p2) pos) (tSl r te tl th):=by
 intro pins s σ H Q I h;refine Subscript_ (thn (he pins s σ H _ I h) ?_);rintro v s1 ⟨x,H1,I1,r1,q1⟩;refine wpAny_Slice (thn (hl pins s1 σ H1 _ I1 q1) λvl s2 ⟨l,H2,I2,pl,q2⟩=>thn (hu pins s2 σ H2 _ I2 q2) ?_);rintro vu s3 ⟨u,H3,I3,pu,q3⟩;rw[evalPart_none];refine ZaL ?_;have I4:Inv X pins σ H3 { s3 with heap:=s3.heap.push { cls:=.type "slice",data:=.fields #[vl,vu,.none] } }:=I3.kept (t':=s3.toks) λb ob q=>Zaf _ q;obtain⟨T,id,hT,ht,hg⟩:=hr pins { s3 with heap:=s3.heap.push { cls:=.type "slice",data:=.fields #[vl,vu,.none] } } σ H3 x v vl vu l u s3.heap.objs.size Q I4 r1 (Heap.IsSliceOf.new ..) pl pu q3;show wpAny (model X.prog X.w) X.A (subscriptTail e (.Slice lo hi none p2) v (.ref s3.heap.objs.size)) (EP X pins σ Q) X.xe { s3 with heap:=s3.heap.push { cls:=.type "slice",data:=.fields #[vl,vu,.none] } }
 exact tail_any (ops:=[.ref s3.heap.objs.size,v]) ht hT hg (by with_unfolding_all rfl)
def Jc(K:Frag):R2:=λx y H Q=>∃ a b xs ys,x=.ref a/\y=.ref b/\SqT K H a xs/\SqT K H b ys/\xs≠[]/\xs.length+ys.length<=sizeLine /\
 (ys=[]->Q (.ref a) H)/\(ys≠[]->∀ p,H p=none->Q (.ref p) (upd H p (.tup (xs++ys))))
theorem Vals.sW{xs:List V}{us:List Value}(r:Vals xs us):us=[]↔xs=[]:=by
 cases r with
 |nil=>simp
 |cons _ _=>simp
theorem Ef:OpR X (binaryOp .Add) (Jc X.K):=by
 intro pins s σ H x y v u Q I rx ry h;obtain⟨a,b,xs,ys,rfl,rfl,ha,hb,hx,hz,q1,q2⟩:=h;cases rx;cases ry;obtain⟨its,r1,p1,_⟩:=I.tuple ha;obtain⟨its2,r2,p2,_⟩:=I.tuple hb;refine HT.Lk p1 p2 (λz=>hx (r1.sW.mp z)) (λz=>⟨.ref a,H,I,rfl,q1 (r2.sW.mp z)⟩) (λz=>?_) (by rw[<-r1.length,<-r2.length];exact hz)
 refine⟨.ref s.heap.objs.size,_,I.laid (t':=s.toks) (o:=.tup (xs++ys)) (λb ob q=>Zaf _ q) (Zag _) ?_,rfl,q2 (λw=>z (r2.sW.mpr w)) _ (I.hok.fresh (Zag _))⟩;exact⟨by rw[List.length_append];exact hz,_,r1.append r2,fP.new _ _⟩
end
def ixN(n:Nat)(i:Int):Option Nat:=if 0<=i then(if i<n then some i.toNat else none) else if -(n:Int)<=i then some (i+n).toNat else none
def atI{α:Type}(xs:List α)(i:Int):Option α:=(ixN xs.length i).bind λj=>xs[j]?
theorem Ln{n:Nat}{i:Int}{j:Nat}(h:ixN n i=some j):seqIndex? i n=some j/\j<n/\-(n:Int)<=i/\i<n:=by
 unfold ixN at h;by_cases h0:0<=i
 ·rw[Zah h0] at h;by_cases h1:i<n
  ·rw[Zah h1] at h;have e:i.toNat=j:=Zad h;exact⟨by rw[seqIndex_of h0 h1,e],by lia,by lia,h1⟩
  ·rw[Zai h1] at h;cases h
 ·rw[Zai h0] at h;by_cases h1:-(n:Int)<=i
  ·rw[Zah h1] at h;have e:(i+n).toNat=j:=Zad h;exact⟨by rw[seqIndex_neg (by lia) h1,e],by lia,h1,by lia⟩
  ·rw[Zai h1] at h;cases h
theorem wW{α:Type}{xs:List α}{i:Int}{v:α}(h:atI xs i=some v):∃ j,seqIndex? i xs.length=some j/\xs[j]?=some v/\j<xs.length/\-(xs.length:Int)<=i/\i<xs.length:=by
 unfold atI at h;cases e:ixN xs.length i with
 |none=>rw[e] at h;cases h
 |some j=>
  rw[e] at h;obtain⟨h1,h2,h3,h4⟩:=Ln e;exact⟨j,h1,h,h2,h3,h4⟩
theorem iR{α:Type}{xs:List α}{j:Nat}{v:α}(h:xs[j]?=some v):atI xs (j:Int)=some v:=by
 have hj:j<xs.length:=(Zay.mp h).1;have e:ixN xs.length (j:Int)=some j:=by
  unfold ixN;rw[Zah (by lia),Zah (by lia)];simp
 unfold atI;rw[e];exact h
def Lp(b:Expr):Prop:=∀ o i,subscripted b false o i=operate [o,i] (getItem o i)
def IxR(X:Cx)(r:R2):Prop:=
 ∀ (value slice:Expr) (pins:List (Addr×Obj)) (s:Shared) (σ:St) (H:Hp) (x y:V) (v u:Value) (Q:VK),Inv X pins σ H s->RelV x v->RelV y u->r x y H Q ->
  subscripted slice false v u=operate [v,u] (getItem v u)->wpAny (model X.prog X.w) X.A (subscriptTail value slice v u) (EP X pins σ Q) X.xe s
def MtR(X:Cx)(id:String)(r:V->List V->Hp->VK->Prop):Prop:=
 ∀ (pins:List (Addr×Obj)) (s:Shared) (σ:St) (H:Hp) (x:V) (xs:List V) (v:Value) (us:List Value) (Q:VK),Inv X pins σ H s->RelV x v->Vals xs us->r x xs H Q ->
  wpAny (model X.prog X.w) X.A (call (.builtin id) (v::us)) (EP X pins σ Q) X.xe s
section
variable{X:Cx}{a b:Expr}{ta tb:TE}{pos:Pos}
theorem IxR.or{r r':R2}(h:IxR X r)(h':IxR X r'):IxR X (λx y H Q=>r x y H Q\/r' x y H Q):=by
 intro value slice pins s σ H x y v u Q I rx ry q hs;rcases q with q|q
 ·exact h value slice pins s σ H x y v u Q I rx ry q hs
 ·exact h' value slice pins s σ H x y v u Q I rx ry q hs
theorem dJ{r:R2}(hr:IxR X r)(ha:PE X a ta)(hb:PE X b tb)(hs:Lp b):PE X (.Subscript a b pos) (tOp r ta tb):=by
 intro pins s σ H Q I h;exact Subscript_ (PK ha hb I h λv u s2 x y H2 I2 rx ry q=>hr a b pins s2 σ H2 x y v u Q I2 rx ry q (hs _ _))
def Ru(K:Frag):R2:=λx y H Q=>∃ p xs i v,x=.ref p/\y=.int i/\SqL K H p xs/\atI xs i=some v/\Q v H
def Rv(K:Frag):R2:=λx y H Q=>∃ p xs i v,x=.ref p/\y=.int i/\SqT K H p xs/\atI xs i=some v/\Q v H
def Rw:R2:=λx y H Q=>∃ z i c,x=.str z/\y=.int i/\z.length<=sizeLine/\atI z.cps.toList i=some c/\Q (.str ⟨#[c]⟩) H
theorem Lq:IxR X (Ru X.K):=by
 intro value slice pins s σ H x y v u Q I rx ry h hs;obtain⟨p,xs,i,z,rfl,rfl,hq,he,q⟩:=h;cases rx;obtain⟨t,rfl⟩:=ry;obtain⟨its,r,pl,hz⟩:=I.list hq;obtain⟨j,h1,h2,h3,h4,h5⟩:=wW he;obtain⟨w,ew,rw'⟩:=r.get h2;have hl:=r.length;have hn:=wV;have fin:EP X pins σ Q w s:=⟨z,H,I,rw',q⟩;by_cases h0:0<=i
 ·have hj:i.toNat=j:=by
   rw[seqIndex_of h0 h5] at h1;exact Zad h1
  exact item_listR pl.isList h0 (by lia) (by rw[hj];simpa using ew) fin hs
 ·have hj:(i+(its.toArray.size:Int)).toNat=j:=by
   rw[seqIndex_neg (by lia) h4] at h1
   rw[List.size_toArray,<-hl];exact Zad h1
  exact subscriptTail_builtinR (x:=w) pl.isList.typeIs slot_list_getitem.lookup
   (wpAny_getItem_list_neg (Q:=λr s'=>r=w/\EP X pins σ Q r s') pl.isList (by lia) (by rw[List.size_toArray]<;>lia) (by lia) (by rw[hj];simpa using ew) ⟨rfl,fin⟩) hs
theorem Qf:IxR X (Rv X.K):=by
 intro value slice pins s σ H x y v u Q I rx ry h hs;obtain⟨p,xs,i,z,rfl,rfl,hq,he,q⟩:=h;cases rx;obtain⟨t,rfl⟩:=ry;obtain⟨its,r,pl,hz⟩:=I.tuple hq;obtain⟨j,h1,h2,h3,h4,h5⟩:=wW he;obtain⟨w,ew,rw'⟩:=r.get h2;have hl:=r.length;have hn:=wV;have fin:EP X pins σ Q w s:=⟨z,H,I,rw',q⟩;exact subscriptTail_builtinR (x:=w) pl.typeIs slot_tuple_getitem.lookup
  (getItem_tuple (j:=j) (Q:=λr s'=>r=w/\EP X pins σ Q r s') pl (by omega) (by omega) (by rw[List.size_toArray,<-hl];exact h1) (by simpa using ew) ⟨rfl,fin⟩) hs
theorem Qg:IxR X Rw:=by
 intro value slice pins s σ H x y v u Q I rx ry h hs;obtain⟨z,i,c,rfl,rfl,hz,he,q⟩:=h;obtain⟨t,rfl⟩:=rx;obtain⟨t',rfl⟩:=ry;obtain⟨j,h1,h2,h3,h4,h5⟩:=wW he;have hl:z.cps.toList.length=z.length:=by simp[Str.length]
 rw[hl] at h1 h4 h5;have hn:=wV;exact tail_any (typeIs_str s z t) slot_str_getitem.lookup (getItem_str (c:=c) (by
  have e1:decide (i < -(2^63:Int))=false:=ZaD (by lia)
  have e2:decide (i>=2^63)=false:=ZaD (by lia)
  rw[e1,e2,Bool.or_false]) (by rw[h1];simpa using h2) ⟨.str ⟨#[c]⟩,H,I.tok _,⟨_,rfl⟩,q⟩) hs
def rIx(K:Frag):R2:=λx y H Q=>Ru K x y H Q\/Rv K x y H Q\/Rw x y H Q
theorem cL:IxR X (rIx X.K):=Lq.or (Qf.or Qg)
def Tt:V->Bool
 |.non=>true
 |.bl _=>true
 |.int _=>true
 |.str _=>true
 |_=>false
def eqV:V->V->Bool
 |.non,.non=>true
 |.bl a,.bl b=>a==b
 |.bl a,.int b=>(if a then 1 else 0)==b
 |.int a,.bl b=>a==(if b then 1 else 0)
 |.int a,.int b=>a==b
 |.str a,.str b=>a==b
 |_,_=>false
theorem oF:oE X (.type "tuple") (λxs H Q=>∃ p ys,xs=[.ref p]/\((SqL X.K H p ys/\∀ l,H l=none->Q (.ref l) (upd H l (.tup ys)))\/(SqT X.K H p ys/\Q (.ref p) H))):=by
 intro pins s σ H xs us Q I r h;obtain⟨p,ys,rfl,h⟩:=h;obtain⟨u,rfl,rx⟩:=vals1 r;cases rx;rcases h with⟨hq,q⟩|⟨hq,q⟩
 ·obtain⟨its,r',pl,hz⟩:=I.list hq;have hlen:=r'.length;refine call_tuple_list pl.isList (λh' kp=>?_) (by simp only[List.size_toArray]<;>omega)
  have I1:Inv X pins σ H { s with heap:=h' }:=I.kept (t':=s.toks) kp;have I2:Inv X pins σ (upd H h'.objs.size (.tup ys)) { s with heap:=h'.push { cls:=.type "tuple",data:=.seq its.toArray } }:=
   I1.laid (t':=s.toks) (λb o e=>Zaf _ e) (Zag _) (show dg X.prog X.w _ _ _ (.tup ys) from⟨hz,its,r',fP.new _ _⟩)
  exact⟨.ref h'.objs.size,_,I2,rfl,q _ (I1.hok.fresh (Zag _))⟩
 ·obtain⟨its,r',pl,hz⟩:=I.tuple hq;exact call_tuple_same pl ⟨.ref p,H,I,rfl,q⟩
def tyV(K:Frag)(T:String)(x:V)(H:Hp):Prop:=match x with
 |.str _=>T="str"
 |.int _=>T="int"
 |.ref p=>(T="list"/\∃ xs,SqL K H p xs)\/(T="tuple"/\∃ o,K.lookup p=some o/\o.cls=.type "tuple"/\o.dict=none) \/
   (T="dict"/\((∃ kvs,H p=some (.dK kvs))\/∃ kvs,H p=some (.dT kvs)))\/(T="set"/\∃ S n,H p=some (.set S n))
 |_=>False
theorem Qh{pins:List (Addr×Obj)}{σ:St}{H:Hp}{s:Shared}{T:String}{x:V}{v:Value}(I:Inv X pins σ H s)(r:RelV x v)(ty:tyV X.K T x H) :
  s.TypeIs v T/\∀ a,v=.ref a->∃ ob,s.heap.get? a=some ob/\ob.dict=none:=by
 cases x with
 |str z=>
  obtain⟨t,rfl⟩:=r;cases (show T="str" from ty);exact⟨typeIs_str s z t,λ_ e=>nomatch e⟩
 |int i=>
  obtain⟨t,rfl⟩:=r;cases (show T="int" from ty);exact⟨typeIs_int s i t,λ_ e=>nomatch e⟩
 |ref p=>
  cases r;rcases ty with⟨rfl,xs,hq⟩|⟨rfl,o,hk,hc,hd⟩|⟨rfl,hk⟩|⟨rfl,S,n,hk⟩
  ·obtain⟨its,_,pl,_⟩:=I.list hq;refine⟨pl.isList.typeIs,λa e=>?_⟩;cases e;obtain⟨o,n,e,c,hd,_⟩:=pl;exact⟨o,e,hd⟩
  ·refine⟨⟨o,I.kIn p o hk,hc⟩,λa e=>?_⟩;cases e;exact⟨o,I.kIn _ o hk,hd⟩
  ·have z:∃ o,s.heap.get? p=some o/\o.ExactDict:=by
    rcases hk with⟨kvs,hk⟩|⟨kvs,hk⟩
    ·obtain⟨_,_,_,_,o,_,_,e,ex,_⟩:=I.hok p _ hk;exact⟨o,e,ex⟩
    ·obtain⟨_,_,_,_,o,_,_,e,ex,_⟩:=I.hok p _ hk;exact⟨o,e,ex⟩
   obtain⟨o,e,ex⟩:=z;refine⟨⟨o,e,ex.1⟩,λa e2=>?_⟩;cases e2;exact⟨o,e,ex.2.1⟩
  ·obtain⟨o,_,_,_,e,ex,_⟩:=I.hok p _ hk;refine⟨⟨o,e,ex.1⟩,λa e2=>?_⟩;cases e2;exact⟨o,e,ex.2.1⟩
 |_=>exact False.elim ty
def tBM(K:Frag)(T:String)(r:V->List V->Hp->VK->Prop)(to:TE)(t:TA):TE:=λσ H Q=>to σ H λx H1=>tyV K T x H1/\t σ H1 λxs H2=>r x xs H2 Q
variable{o e:Expr}{es:List Expr}{to:TE}{t:TA}{name:Str}{apos cpos:Pos}{T id:String}{r:V->List V->Hp->VK->Prop}
theorem vY(pa:PlainAttrs T)(slot:Slot T name id)(hty:typeOf (.builtin id)=pure (.type "method_descriptor"))(hm:MtR X id r)(ho:PE X o to)(ha:PA X (e::es) t)
  (hbase:attributeBase o name X.env (eval o X.env)=eval o X.env:=by rfl)
  (hfew:((backTo cpos (starEach (e::es) X.env)).all (λx=>!x.1)&&(backToKw cpos (keywordEach [] X.env)).all (λx=>x.1.isSome)
   && decide ((e::es).length+([]:List Keyword).length+(if([]:List Keyword).isEmpty then 0 else 1)<30))=true:=by rfl)
  (hline:(apos.endLine==cpos.line)=true:=by rfl)(hs:starEach (e::es) X.env=(false,eval e X.env)::starEach es X.env:=by rfl)(hplain:(backTo cpos (starEach es X.env)).any (·.1)=false:=by rfl) :
  PE X (.Call (.Attribute o name apos) (e::es) [] cpos) (tBM X.K T r to t):=by
 intro pins s σ H Q I h;refine wpAny_Call_method_late hbase hfew hline rfl (thn (ho pins s σ H _ I h) ?_);rintro v s1 ⟨x,H1,I1,r1,ty,q1⟩;obtain⟨h1,h2⟩:=Qh I1 r1 ty;refine⟨T,id,pa,slot,hty,h1,h2,?_⟩;have hA:=ha cpos pins s1 σ H1 _ I1 q1;rw[hs] at hA ⊢;refine Calls.callWith_builtin (by show(false||(backTo cpos (starEach es X.env)).any (·.1))=false;rw[hplain]<;>rfl) (Calls.evalArgs_plain ?_)
 exact thn hA λus s2 ⟨vs,H2,I2,r2,q2⟩=>hm pins s2 σ H2 x vs v us Q I2 r1 r2 q2
end
def MtM(X:Cx)(id:String)(r:V->List V->Hp->VK->Prop):Prop:=
 ∀ (pins:List (Addr×Obj)) (s:Shared) (σ:St) (H:Hp) (x:V) (xs:List V) (v:Value) (us:List Value) (Q:VK),Inv X pins σ H s->RelV x v->Vals xs us->r x xs H Q ->
  wpAny (model X.prog X.w) X.A (call (.builtin id) (v::us)) (EP X pins σ Q) X.xe s
theorem Vals.one:∀ {x:V}{us:List Value},Vals [x] us->∃ u,us=[u]/\RelV x u
 |_,_,.cons r .nil=>⟨_,rfl,r⟩
theorem Vals.rep{xs:List V}{us:List Value}(h:Vals xs us):∀ k:Nat,Vals (List.replicate k xs).flatten (List.replicate k us).flatten
 |0=>.nil
 |k+1=>by
  rw[List.replicate_succ,List.replicate_succ,List.flatten_cons,List.flatten_cons];exact Vals.append h (Vals.rep h k)
section
variable{X:Cx}{pins:List (Addr×Obj)}{σ:St}{H:Hp}{s:Shared}{l:Addr}{xs ys:List V}
theorem Inv.S8{its its':List Value}{n:Nat}{f:Array Value->Array Value}{t':Nat}(I:Inv X pins σ H s)(hH:H l=some (.lst xs))
  (e:s.heap.get? l=some { cls:=.type "list",data:=.seq its.toArray n })(hf:f its.toArray=its'.toArray)(hv:Vals ys its')(hz:ys.length<=sizeLine) :
  Inv X pins σ (upd H l (.lst ys)) { s with heap:=s.heap.update l (Obj.mapSeq f),toks:=t' }:=by
 have q:=PySem.IsL.update e f;rw[hf] at q;refine I.write (x:=l) (e:=l) (by rw[hH];exact trivial) (.inl rfl) (λb' u hb hu=>(Heap.get?_update_other s.heap (Obj.mapSeq f) (Zbp hb)).trans hu) ⟨_,q⟩ ?_
 exact⟨hz,its',_,hv,q⟩
theorem Inv.S9{its:List Value}{t':Nat}(I:Inv X pins σ H s)(hv:Vals ys its)(hz:ys.length<=sizeLine) :
  Inv X pins σ (upd H s.heap.objs.size (.lst ys)) { s with heap:=s.heap.push { cls:=.type "list",data:=.seq its.toArray },toks:=t' }:=
 I.laid (λ_ _ q=>Zaf _ q) (Zag _) ⟨hz,its,0,hv,Zax _ rfl⟩
theorem Inv.fresh(I:Inv X pins σ H s):H s.heap.objs.size=none:=I.hok.fresh (Zag _)
theorem Inv.Tc(I:Inv X pins σ H s)(hH:H l=some (.lst xs)):xs.length<=sizeLine/\∃ (its:List Value) (n:Nat),Vals xs its/\xs.length=its.length/\s.heap.get? l=some { cls:=.type "list",data:=.seq its.toArray n }:=by
 obtain⟨z,its,n,r,e⟩:=I.hok l _ hH;exact⟨z,its,n,r,r.length,e⟩
end
section
variable{X:Cx}
def wX:V->List V->Hp->VK->Prop:=λx vs H Q=>∃ l xs y,x=.ref l/\vs=[y]/\H l=some (.lst xs)/\xs.length<sizeLine/\Q .non (upd H l (.lst (xs++[y])))
theorem gD:MtM X "list.append" wX:=by
 intro pins s σ H x vs v us Q I rx rv h;obtain⟨l,xs,y,rfl,rfl,hH,hz,q⟩:=h;cases rx;obtain⟨u,rfl,ru⟩:=rv.one;obtain⟨z,its,n,r,hl,e⟩:=I.Tc hH;refine call_meets F.slot_list_append ⟨_,e,rfl⟩ F.entry_list_append (F.args_list_append_2 _ _) (PySem.list_append l its.toArray n u (by rw[List.size_toArray];lia)) ⟨e,?_⟩
 refine⟨.non,_,I.S8 (its':=its++[u]) hH e (by simp) (r.append (.cons ru .nil)) ?_,rfl,q⟩
 rw[List.length_append,Zbx];lia
end
end L2
namespace Att
open PySem PySem.W PySem.Calls PyProof.Rows
theorem sG{P:Params}{h:Heap}:∀ (ns:List Int) (vs:List Value),WellAll P h vs (ns.map WData.int)->IntsAre vs ns:=by
 intro ns;induction ns with
 |nil=>
  intro vs w;rw[List.map_nil] at w;cases w;exact .nil
 |cons n ns ih=>
  intro vs w;rw[Zal] at w;cases w with
  |cons a b=>
   cases a;exact .cons _ _ (ih _ b)
theorem GQ{l:OpenLaw}{n:Nat}(hn:l.most=some n){P:Params}{h:Heap}{args:List WData}{vals:List Value}
  (hpre:l.row.toRowW.claim.pre args=true)(hwl:WellAll P h vals args) :
  ∃ a vs ns,vals=[Value.ref a]/\args=[WData.list (ns.map WData.int)]/\h.get? a=some { cls:=.type "list",data:=.seq vs.toArray }/\IntsAre vs ns/\ns.length<=n:=by
 have hsh:WShape.hasAll [] args [.list .int]=true:=(pre_splitW hpre).1;have hc:l.pre.holds [] { args:=args }=true:=(pre_splitW hpre).2;obtain⟨d,r,rfl,h1,h2⟩:=hasAllW_cons hsh;obtain rfl:=hasAllW_nil h2;obtain⟨xs,rfl,h3⟩:=hasW_list h1;obtain⟨ns,rfl⟩:=items_int h3;have hlen:ns.length<=n:=by
  unfold OpenLaw.pre at hc;have h4:(WTm.not (.lt (.lit (.int (n:Int))) (.len (.arg 0)))).holds [] { args:=[.list (ns.map .int)] }=true:=by
   have h4:=(holds_andW hc).1;rw[hn] at h4;exact h4
  have h5:=condW_of h4 (w_not (w_lt w_lit (w_len_list (w_arg rfl))));rw[List.length_map] at h5;refine Nat.le_of_not_lt λq=>?_;have q':(n:Int)<((ns.length:Nat):Int):=by omega
  first
   |(rw[Zaz q'] at h5;exact absurd h5 (by decide))
   |(simp at h5;omega)
 cases hwl with
 |cons w1 w2=>
  cases w2;cases w1 with
  |list ho hall=>exact⟨_,_,ns,rfl,rfl,ho,sG ns _ hall,hlen⟩
theorem GR(l:OpenLaw)(args:List WData):l.row.toRowW.claim.post args (.bool true) args=true:=
 postW_of (r:=l.row.toRowW) (X:=(true==true))
  (show WShape.has [] (.bool true) .bool=true by first|rfl|decide|simp[WShape.has,WShape.arms,WShape.armsAll])
  (show(WTm.eq .res (.lit (.bool true))).value [] { args:=args,res:=some (.bool true),after:=args }=some (.bool (true==true)) from w_eq_bool (w_res rfl) w_lit) rfl
theorem yV{l:OpenLaw}{n:Nat}{q:Program}{loose:List Str}{XP:(Str->Option Value)->Heap->Prop}{YP:World->Heap->Prop}{d:DefRec}
  (hn:l.most=some n)(hdf:d.params.defaults=[])
  (call:∀ (w:World) (s₀ s₁:Shared) (mg mb:Str->Option Value) (fa:Addr) (o:Obj) (pm cd doc:Value) (a:Addr) (vs:List Value) (ns:List Int),
   Ground q loose [] XP w s₀ mg mb s₁.heap->YP w s₁.heap ->
   s₁.heap.get? fa=some o->o.data=.func (docDef d.name d.params d.body d.scope pm cd doc)->s₁.heap.CodeRec cd d.name->mg d.name=some (.ref fa) ->
   s₁.heap.get? a=some { cls:=.type "list",data:=.seq vs.toArray }->IntsAre vs ns->ns.length<=n->s₁.gens=#[] ->
   codeAny (model l.prog w) callerA (.call (.ref fa) ⟨[.ref a],[]⟩) (λr s'=>r=.ok (.ret (.bool true))/\OldK s₁.heap s'.heap/\s'.os=s₁.os/\AllBare s'.gens) s₁) :
  WalkO q loose XP YP l.row.toRowW d [] (λf vs=>PySem.call f vs):=by
 intro w s₀ s₁ mg mb G Y fa o pm cd doc dV kV ho hd hcd hD hmg hg args vals as hpre hlay hrd hwl hlo;obtain rfl:dV=.none:=Dflts.none hD hdf;obtain rfl:kV=.none:=Dflts.noKw hD;obtain⟨a,vs,ns,rfl,rfl,hobj,hints,hlen⟩:=GQ hn hpre hwl;refine enter_call (codeAny_mono (call w s₀ s₁ mg mb fa o pm cd doc a vs ns G Y ho (fd_plain hd) hcd hmg hobj hints hlen hg) λr s' hq=>?_);obtain⟨rfl,h2,h3,h4⟩:=hq;exact⟨.inl ⟨.bool true,.bool true,[],rfl,λ_=>rfl,.bool true,GR l _,λ_=>⟨List.Pairwise.nil,λ_ hm=>(nomatch hm)⟩⟩,h2,h3,h4⟩
end Att
namespace L2
open PySem PySem.Spec PyProof.Rows
theorem qW:∀ {vs:List Value}{ns:List Int},IntsAre vs ns->Vals (ns.map V.int) vs
 |_,_,.nil=>.nil
 |_,_,.cons n t h=>.cons ⟨t,rfl⟩ (qW h)
def bj(s:Stmt):Arguments:=match s with
 |.FunctionDef _ a _ _ _ _ _ _ _ _=>a
 |_=>{ posonlyargs:=[],args:=[],vararg:=none,kwonlyargs:=[],kw_defaults:=[],kwarg:=none,defaults:=[] }
def aZ(s:Stmt):List Stmt:=match s with
 |.FunctionDef _ _ b _ _ _ _ _ _ _=>b
 |_=>[]
def aA(s:Stmt):Scope:=match s with
 |.FunctionDef _ _ _ _ _ _ sc _ _ _=>sc
 |_=>{ kind:=.function,names:=[],isGenerator:=false,isCoroutine:=false }
noncomputable abbrev CX0:CXT:=λ_ _ _ _ _ _=>False
noncomputable abbrev E0:XK:=λ_ _ _=>False
theorem Oq{X:Cx}:Cp CX0 X E0:=λ_ _ _ _ _ _ _ h=>h.elim
structure Fun(K:Frag)(x qual:Str)(st:Stmt)(f:Addr)(fd:FuncData):Prop where
 ex:∃ (oc:Value) (od:Option Addr) (kV doc pm:Value) (an:Option Addr) (cdv ct:Value) (osl:Array (Option Value)),
  fd=fnOf x qual (bj st) (aZ st) (aA st) .none kV doc pm an cdv ct/\K.lookup f=some ⟨oc,od,.func fd,osl⟩/\codeIn K cdv qual=true
 kp:keepIn K (.ref f)=true
section
variable{P:Program}{w:World}{K:Frag}{mg:Str->Option Value}{base:Heap}
theorem Fun.ok{x qual:Str}{st:Stmt}{f:Addr}{fd:FuncData}{N ps:List Str}{k:Nat}{sp:Sp}(F:Fun K x qual st f fd)(S:bf N ps (aA st))(len:∀ vs H Q E,sp vs H Q E->vs.length=ps.length)
  (hbody:∀ (cdv:Value) (A:Around) (outer:List Env) (s:Shared) (H:Hp) (vs:List V) (Q:VK) (E:XK),dH k (A.deeper (envOfC qual (aA st) s.heap.objs.size f cdv))->sp vs H Q E ->
   ∃ t,PSs (sE CX0 P w K mg base N qual (aA st) f cdv A outer s H E).nox (aZ st) t/\t { nx:=λ_ H'=>Q .non H',rt:=Q } (start N vs) H):vA P w K mg base CX0 (k+1) f fd ps sp:=by
 obtain⟨oc,od,kV,doc,pm,an,cdv,ct,osl,rfl,lk,hcd⟩:=F.ex;refine Om lk hcd S len λA outer s H vs Q E hr hsp=>?_;obtain⟨t,h,q⟩:=hbody cdv A outer s H vs Q E hr hsp;exact⟨t,h.nox,q⟩
theorem Fun.binds{x qual:Str}{st:Stmt}{f:Addr}{fd:FuncData}{ps:List Str}(F:Fun K x qual st f fd)
  (h:∀ (kV doc pm:Value) (an:Option Addr) (cdv ct:Value) (us:List Value),us.length=ps.length->bindArgs (fnOf x qual (bj st) (aZ st) (aA st) .none kV doc pm an cdv ct) ⟨us,[]⟩=pure (ps.zip us)):Binds K fd ps []:=by
 obtain⟨oc,od,kV,doc,pm,an,cdv,ct,osl,rfl,lk,hcd⟩:=F.ex;exact .all (h kV doc pm an cdv ct)
theorem cj{x qual:Str}{st:Stmt}{f:Addr}{oc:Value}{od an:Option Addr}{osl:Array (Option Value)}{kV doc pm cdv ct:Value}(l:K.lookup f=some ⟨oc,od,.func (fnOf x qual (bj st) (aZ st) (aA st) .none kV doc pm an cdv ct),osl⟩)
  (c:codeIn K cdv qual=true)(k:keepIn K (.ref f)=true):Fun K x qual st f (fnOf x qual (bj st) (aZ st) (aA st) .none kV doc pm an cdv ct):=⟨⟨oc,od,kV,doc,pm,an,cdv,ct,osl,rfl,l,c⟩,k⟩
end
theorem Jd{A:Around}{k:Nat}(hr:dH k A):A.units+1<cLine:=Nat.lt_of_le_of_lt (Nat.add_le_add_left (by decide:1<=64) _) hr.units
theorem bw{n:Nat}(h:n<=1000):n<sizeLine:=Nat.lt_of_le_of_lt h (by decide)
section
variable{X:Cx}
theorem pv(i:Nat){x:Str}{pos:Pos}(hN:X.N[i]?=some x:=by rfl)(hv:Vis X.env.scope x:=by first|exact Or.inl rfl|exact Or.inr (Or.inl rfl)|exact Or.inr (Or.inr rfl))(hd:(x==("__debug__":Str))=false:=by decide)
  (hcd:(x==("__classdict__":Str))=false:=by decide):PE X (.Name x pos) (qT i):=Cd hN hv hd hcd
end
theorem vB{c A B:Prop}[Decidable c](h1:c->A)(h2:¬c->B):if c then A else B:=by
 by_cases h:c
 ·rw[Zah h];exact h1 h
 ·rw[Zai h];exact h2 h
def aR(H H':Hp):Prop:=∀ b o,H b=some o->H' b=some o
theorem aR.refl(H:Hp):aR H H:=λ_ _ h=>h
theorem aR.trans{H H1 H2:Hp}(a:aR H H1)(b:aR H1 H2):aR H H2:=λc o h=>b c o (a c o h)
theorem aR.free{H H':Hp}(e:aR H H'){l:Addr}(h:H' l=Option.none):H l=Option.none:=by
 cases q:H l with
 |none=>rfl
 |some o=>
  rw[e l o q] at h;cases h
theorem aR.seq{K:Frag}{H H':Hp}{a:Addr}{xs:List V}(e:aR H H')(h:SqL K H a xs):SqL K H' a xs:=by
 rcases h with(h|⟨o,h⟩)|h
 ·exact .inl (.inl (e _ _ h))
 ·exact .inl (.inr ⟨o,e _ _ h⟩)
 ·exact .inr h
end L2
set_option maxHeartbeats 4000000
namespace Mth
def sub(l m:List Bool):Bool:=(List.range l.length).all λi=>!l.getD i false||m.getD i false
theorem Lr(n p:Nat):(n/2^p) &&& 1=(n.testBit p).toNat:=by
 have h:=Nat.testBit_eq_decide_div_mod_eq (x:=n) (i:=p);rw[Nat.and_one_is_mod,h];by_cases e:n/2^p%2=1
 ·simp[e]
 ·have:n/2^p%2=0:=by omega
  simp[this]
def pl(W:Nat)(c:Int×Int):Nat:=c.2.toNat*W+c.1.toNat
def cellOf(W:Nat)(i:Nat):Int×Int:=(((i%W:Nat):Int),((i/W:Nat):Int))
def qX(W:Nat)(ps:List (Int×Int)):Nat:=ps.foldl (λn c=>n ||| 2^pl W c) 0
theorem yW(W:Nat):∀ (ps:List (Int×Int)) (n i:Nat),(ps.foldl (λn c=>n ||| 2^pl W c) n).testBit i=(n.testBit i||decide (∃ c∈ps,pl W c=i))
 |[],n,i=>by simp
 |c::ps,n,i=>by
  rw[List.foldl_cons,yW W ps,Nat.testBit_or,Nat.testBit_two_pow,Bool.or_assoc];congr 1
  rw[Bool.eq_iff_iff];simp
theorem Eg(W:Nat)(ps:List (Int×Int))(i:Nat):(qX W ps).testBit i=decide (∃ c∈ps,pl W c=i):=by
 unfold qX;rw[yW];simp
theorem GX(W:Nat)(ps:List (Int×Int))(c:Int×Int):qX W (ps++[c])=qX W ps ||| 2^pl W c:=by
 unfold qX;rw[List.foldl_append];rfl
end Mth
namespace L2
open PySem PySem.Spec PyProof.Rows
theorem oX{env:Env}:∀ (names:List (Str×NameKind)) (cs:List (Str×Addr)),(∀ x∈names,x.2=.free->∃ c,env.cells.lookup x.1=some c) ->
  (∀ x c,cs.lookup x=some c->env.cells.lookup x=some c) ->
  ∃ cl,(forIn names cs λx s=>if(x.snd==NameKind.free)=true then do let d <-cellOf env x.fst;pure (ForInStep.yield ((x.fst,d)::s)) else pure (ForInStep.yield s):Sem _)=pure cl /\
   (∀ x c,cl.lookup x=some c->env.cells.lookup x=some c)/\(∀ x c,cs.lookup x=some c->cl.lookup x=some c)/\∀ x,(x,NameKind.free)∈names->∃ c,cl.lookup x=some c
 |[],cs,_,h2=>⟨cs,rfl,h2,λ_ _ e=>e,λ_ h=>nomatch h⟩
 |(n,k)::r,cs,h1,h2=>by
  rw[List.forIn_cons];by_cases hk:k=.free
  ·subst hk;obtain⟨c,hc⟩:=h1 (n,.free) List.mem_cons_self rfl;have ec:cellOf env n=pure c:=by unfold cellOf;simp only[hc]
   obtain⟨cl,e,p1,p2,p3⟩:=oX r ((n,c)::cs) (λx hx=>h1 x (List.mem_cons_of_mem _ hx)) (λx d e=>by
    rw[List.lookup_cons] at e;by_cases hx:x=n
    ·subst hx;simp at e;subst e;exact hc
    ·have hb:(x==n)=false:=beq_eq_false_iff_ne.mpr hx;rw[hb] at e;exact h2 x d e)
   refine⟨cl,?_,p1,λx d e'=>?_,λx hx=>?_⟩
   ·simp only[beq_self_eq_true,ZbA,ec];exact e
   ·by_cases hx:x=n
    ·subst hx;have:=h2 _ _ e';rw[hc] at this;cases this;exact p2 x c (by simp)
    ·have hb:(x==n)=false:=beq_eq_false_iff_ne.mpr hx;exact p2 x d (by rw[List.lookup_cons,hb];exact e')
   ·rcases ZaW.mp hx with e|hx
    ·cases e;exact⟨c,p2 n c (by simp)⟩
    ·exact p3 x hx
  ·obtain⟨cl,e,p1,p2,p3⟩:=oX r cs (λx hx=>h1 x (List.mem_cons_of_mem _ hx)) h2;have hb:(k==NameKind.free)=false:=by simpa using hk
   refine⟨cl,?_,p1,p2,λx hx=>?_⟩
   ·simp only[hb,Zby,Zbm];exact e
   ·rcases ZaW.mp hx with e|hx
    ·cases e;exact absurd rfl hk
    ·exact p3 x hx
theorem Cq{scope:Scope}{env:Env}(h:∀ x∈scope.names,x.2=.free->∃ c,env.cells.lookup x.1=some c):∃ cl,closureFor scope env=pure cl /\
  (∀ x c,cl.lookup x=some c->env.cells.lookup x=some c)/\∀ x,(x,NameKind.free)∈scope.names->∃ c,cl.lookup x=some c:=by
 obtain⟨cl,e,p1,_,p3⟩:=oX scope.names [] h (λ_ _ e=>nomatch e);refine⟨cl,?_,p1,p3⟩;simp only[closureFor];rw[e];rfl
noncomputable abbrev lG(env:Env)(x:Str×NameKind):Str×NameKind:=if(x.2==NameKind.free&&env.scope.kind==.function&&env.kindOf x.1==some .cell)=true then(x.1,NameKind.cell) else x
theorem GZ(env:Env)(x:Str×NameKind):(lG env x).1=x.1:=by unfold lG;split<;>rfl
theorem pL{env:Env}:∀ (names:List (Str×NameKind)) (x:Str),(names.map (lG env)).lookup x=(names.lookup x).map λk=>(lG env (x,k)).2
 |[],x=>rfl
 |(n,k)::r,x=>by
  rw[Zal];have e1:lG env (n,k)=(n,(lG env (n,k)).2):=by
   have:=GZ env (n,k);cases h:lG env (n,k) with
   |mk a b=>rw[h] at this;cases this;rfl
  rw[e1,List.lookup_cons,List.lookup_cons,pL r x];by_cases hx:x=n
  ·subst hx;simp
  ·have hb:(x==n)=false:=beq_eq_false_iff_ne.mpr hx;rw[hb]
theorem vC(scope:Scope)(env:Env):(relabel scope env).names=scope.names.map (lG env):=by
 unfold relabel;show List.map _ _=_
 refine Za2 λx _=>?_;obtain⟨n,k⟩:=x;rfl
theorem jk(scope:Scope)(env:Env)(x:Str):(relabel scope env).names.lookup x=(scope.names.lookup x).map λk=>(lG env (x,k)).2:=by
 rw[vC,pL]
theorem iT{scope:Scope}{env:Env}{x:Str}{k:NameKind}(hk:k≠.free)(h:scope.names.lookup x=some k):(relabel scope env).names.lookup x=some k:=by
 rw[jk,h];simp[lG,hk]
theorem pN{scope:Scope}{env:Env}{x:Str}(h:scope.names.lookup x=some .free):(relabel scope env).names.lookup x=some .cell\/(relabel scope env).names.lookup x=some .free:=by
 rw[jk,h];simp only[ZbL,lG];split
 ·exact .inl rfl
 ·exact .inr rfl
theorem Cr{scope:Scope}{env:Env}{x:Str}(h0:scope.names.lookup x≠some .cell)(h:(relabel scope env).names.lookup x=some .cell\/(relabel scope env).names.lookup x=some .free):scope.names.lookup x=some .free:=by
 rw[jk] at h;cases e:scope.names.lookup x with
 |none=>rw[e] at h;simp at h
 |some k=>
  by_cases hk:k=.free
  ·rw[hk]
  ·rw[e] at h;simp[lG,hk] at h;subst h;exact absurd e h0
theorem lookup_mem{β:Type}:∀ {l:List (Str×β)}{x:Str}{v:β},l.lookup x=some v->(x,v)∈l
 |[],_,_,h=>nomatch h
 |(n,k)::r,x,v,h=>by
  rw[List.lookup_cons] at h;by_cases hx:x=n
  ·subst hx;simp at h;subst h;exact List.mem_cons_self
  ·have hb:(x==n)=false:=beq_eq_false_iff_ne.mpr hx;rw[hb] at h;exact List.mem_cons_of_mem _ (lookup_mem h)
noncomputable abbrev Cx.comp(X:Cx)(N:List Str)(scope:Scope)(cl:List (Str×Addr))(C:Addr)(s2:Shared)(H2:Hp)(fp:List Addr):Cx where
 prog:=X.prog
 w:=X.w
 K:=X.K
 mg:=X.mg
 base:=X.base
 A:=X.A
 N:=N
 s₀:=s2
 H₀:=H2
 env:=compEnvC scope cl C X.env
 outer:=X.stack
 stack:=X.stack
 ex:=fp
 fn:=λ_=>false
 calm:=X.calm
 pn:=[]
 xe:=λ_ _=>False
def uf(XN N:List Str)(xs scope:Scope)(fr:List (Option Nat)):Bool:=
 decide (fr.length=N.length)&&(scope.kind==.function)&&(scope.names.all λx=>!(x.2==.cell))&&(scope.names.all λx=>!(x.2==.local)||scope.names.lookup x.1==some .local) &&
 (scope.names.all λx=>!(x.2==.free)||(xs.names.lookup x.1==some .cell||xs.names.lookup x.1==some .free)) &&
 (List.range N.length).all λj=>match fr[j]?,N[j]? with
  |some (some i),some x=>decide (XN[i]?=some x)&&(scope.names.lookup x==some .free)
  |_,_=>true
theorem yX{XN N:List Str}{xs scope:Scope}{fr:List (Option Nat)}(h:uf XN N xs scope fr=true) :
  fr.length=N.length/\scope.kind=.function/\(∀ x∈scope.names,x.2≠.cell)/\(∀ x∈scope.names,x.2=.local->scope.names.lookup x.1=some .local) /\
  (∀ x∈scope.names,x.2=.free->xs.names.lookup x.1=some .cell\/xs.names.lookup x.1=some .free) /\
  ∀ (j i:Nat) (x:Str),fr[j]?=some (some i)->N[j]?=some x->XN[i]?=some x/\scope.names.lookup x=some .free:=by
 unfold uf at h;simp only[Bool.and_eq_true,decide_eq_true_eq,Zbd] at h;obtain⟨⟨⟨⟨⟨h1,h2⟩,h3⟩,h4⟩,h5⟩,h6⟩:=h;refine⟨h1,by simpa using h2,λx hx=>by simpa using h3 x hx,λx hx e=>?_,λx hx e=>?_,λj i x e1 e2=>?_⟩
 ·have:=h4 x hx;simp[e] at this;exact this
 ·have:=h5 x hx;simp[e] at this;exact this
 ·have hj:j<N.length:=(Zay.mp e2).1;have:=h6 j (ZaA.mpr hj);rw[e1,e2] at this;simpa using this
def frσ(fr:List (Option Nat))(σ:St):St:=fr.map λo=>match o with
 |some i=>match σ[i]? with
  |some v=>v
  |none=>none
 |none=>none
theorem Ls{fr:List (Option Nat)}{σ:St}{j:Nat}{v:V}(h:(frσ fr σ)[j]?=some (some v)):∃ i,fr[j]?=some (some i)/\σ[i]?=some (some v):=by
 unfold frσ at h;rw[Zac] at h;cases e:fr[j]? with
 |none=>rw[e] at h;cases h
 |some o=>
  rw[e] at h;cases o with
  |none=>cases h
  |some i=>
   simp only[ZbL] at h;cases e2:σ[i]? with
   |none=>rw[e2] at h;cases h
   |some w=>rw[e2] at h;exact⟨i,rfl,by simpa[e2] using h⟩
def Je(X:Cx)(ifs:List Expr)(t:TT):Prop:=
 ∀ (pins:List (Addr×Obj)) (s:Shared) (σ:St) (H:Hp) (Q:Bool->Hp->Prop),Inv X pins σ H s->t σ H Q ->
  wpAny (model X.prog X.w) X.A (forIn ifs true λc r=>if r=true then do let ok <-isTrue c X.env (eval c X.env);pure (ForInStep.yield ok) else pure (ForInStep.yield r)) (TP X pins σ Q) X.xe s
def Rx:TT:=λ_ H Q=>Q true H
theorem jl{X:Cx}:Je X [] Rx:=λ_ _ _ H _ I h=>wpAny_tests_nil ⟨H,I,h⟩
theorem Jf{X:Cx}{c:Expr}{t:TT}(h:PT X c t):Je X [c] t:=λpins s σ H Q I hw=>wpAny_tests_one (h pins s σ H Q I hw)
def Ry(D:Addr)(tc:TT)(te:TE):TS:=λE σ H=>tc σ H λb H1=>if b=true then te σ H1 λv H2=>∃ ys,H2 D=some (.lst ys)/\ys.length<sizeLine/\E.nx σ (upd H2 D (.lst (ys++[v]))) else E.nx σ H1
def endC(Q:VK)(D:Addr):Ends:={ nx:=λ_ H=>Q (.ref D) H,rt:=λ_ _=>False }
def ug(wi:TI)(fr:List (Option Nat))(g:TG)(tc:TT)(te:TE):TE:=λσ H Q=>wi σ H λJ H1=>∀ D,H1 D=none->∃ W:Nat->Nat->St->Hp->Prop,(∃ m,W 0 m (frσ fr σ) (upd H1 D (.lst [])))/\∀ i m σ H,W i m σ H ->
 (J.stop i H/\(endC Q D).nx σ H)\/(J.go i H/\∃ N:St->Hp->Prop,(∀ σ' H',N σ' H'->∃ m',m'<m/\W (i+1) m' σ' H')/\∀ x H',J.yld i H x H'->g x σ H' λσ2 H2=>Ry D tc te { endC Q D with nx:=N,ct:=N,bk:=(endC Q D).nx } σ2 H2)
section
variable{prog:Program}{w:World}{A:Around}{R:Result->Shared->Prop}{s:Shared}
theorem Ha{elt target iter:Expr}{ifs:List Expr}{scope:Scope}{pos:Pos}{it acc:Value}{env:Env}(I:Nat->Shared->Prop)
  (turn:∀ n s,I n s->wpAny (model prog w) A (pyNext it) (λr s₁=>match r with
   |none=>R (.ok .next) s₁
   |some v=>wpAny (model prog w) A (letOwnedTupleGo target it v) (λ_ s₁=>wpAny (model prog w) A (assign target env v) (λ_ s₂=>
     wpAny (model prog w) A (forIn ifs true λc r=>if r=true then do let ok <-isTrue c env (eval c env);pure (ForInStep.yield ok) else pure (ForInStep.yield r)) (λok s₃=>
      if ok=true then wpAny (model prog w) A (eval elt env) (λx s₄=>
       wpAny (model prog w) A (call (.builtin "list.append") [acc,x]) (λ_ s₅=>∃ m,m<n/\I m s₅) (notedBy (model prog w) A env λe s'=>R (.error e) s') s₄) (notedBy (model prog w) A env λe s'=>R (.error e) s') s₃
      else ∃ m,m<n/\I m s₃) (notedBy (model prog w) A env λe s'=>R (.error e) s') s₂) (notedBy (model prog w) A env λe s'=>R (.error e) s') s₁) (notedBy (model prog w) A env λe s'=>R (.error e) s') s₁) (notedBy (model prog w) A env λe s'=>R (.error e) s') s)
  (n:Nat)(h:I n s) :
  codeAny (model prog w) A (.compLoop (.ListComp elt [⟨target,iter,ifs,0⟩] scope pos) 0 it acc env) R s:=by
 refine codeAny_loop rfl I (λn s hI=>?_) n h;show wpAny _ A ((compTurn (.ListComp elt [⟨target,iter,ifs,0⟩] scope pos) 0 it acc env).onRaise (λx=>do noteFrame x env;theTreesLotGoes x)) _ _ s
 refine wpAny_noted ?_;rw[compTurn_list];refine Zak (wpAny_standAt (Zak (Za9 (turn n s hI) (λr s₁ h₁=>?_) λ_ _ h'=>h')));cases r with
 |none=>exact ZaL h₁
 |some v=>
  refine Zak (Za9 h₁ (λ_ s₁' h₁'=>?_) λ_ _ h'=>h');refine Zak (Za9 h₁' (λ_ s₂ h₂=>Zak (Za9 h₂ (λok s₃ h₃=>?_) λ_ _ h'=>h')) λ_ _ h'=>h');cases ok with
  |false=>exact ZaL ⟨rfl,h₃⟩
  |true=>
   exact Zak (Zak (Za9 h₃ (λx s₄ h₄=>Zak (Za9 h₄ (λ_ s₅ h₅=>ZaL (ZaL ⟨rfl,h₅⟩)) λ_ _ h'=>h')) λ_ _ h'=>h'))
end
structure Apart(X:Cx)(pins:List (Addr×Obj))(C:Addr):Prop where
 ne:C≠X.env.locals
 ab:X.s₀.heap.objs.size<=C
 cells:∀ x c,X.env.cells.lookup x=some c->c≠C
 pins:∀ p∈X.pn++pins,p.1≠C
section
variable{X:Cx}{elt tg iter:Expr}{ifs:List Expr}{scope:Scope}{pos pos':Pos}{wi:TI}{g:TG}{tc:TT}{te:TE}{pins:List (Addr×Obj)}{σ:St}{H:Hp}{s:Shared}
theorem yZ(N:List Str)(fr:List (Option Nat))(hc:X.calm=true)(hi:PI X tg iter wi)(hg:∀ cl C s2 H2 fp,PG (X.comp N scope cl C s2 H2 fp) tg g)
  (ht:∀ cl C s2 H2 fp,Je (X.comp N scope cl C s2 H2 fp) ifs tc)(he:∀ cl C s2 H2 fp,PE (X.comp N scope cl C s2 H2 fp) elt te)
  (ok:uf X.N N X.env.scope scope fr=true)(hs:∀ x,foldedSetIterable iter X.env x=pure x){Q:VK}{Q':Value->Shared->Prop}{use:Option (Value->Sem Unit)}
  (I:Inv X pins σ H s)(h:ug wi fr g tc te σ H Q)
  (fin:∀ D C s' H',Inv X pins σ H' s'->H' C=none->Apart X pins C->(∃ m,s'.heap.Ns C m)->Q (.ref D) H'->compPost (model X.prog X.w) X.A X.xe use Q' (.ref D) C (.ok .next) s') :
  wpAny (model X.prog X.w) X.A (comprehension (.ListComp elt [⟨tg,iter,ifs,0⟩] scope pos) scope X.env pos' (newList []) false (eval iter X.env) use) Q' X.xe s:=by
 obtain⟨o1,o2,o3,o4,o5,o6⟩:=yX ok;obtain⟨cl,hclos,c1,c2⟩:=Cq (scope:=scope) (env:=X.env) (λx hx hf=>I.ok.has x.1 (o5 x hx hf));refine wpAny_comprehension_free (use:=use) rfl hs hclos o2 o4 (thn (hi pins s σ H _ I h) λxv s1 h1=>thn h1 λitv s2 h2=>?_);obtain⟨it,fp,tn,J,H2,rfl,I2,T,st2,f2,hW⟩:=h2;refine wpAny_newObj_type (wpAny_newFunctionEnv o3 (by intro y hy;simp at hy) (λh₁ hns₁ hsb₁=>?_) o2)
 dsimp only at hns₁ hsb₁ ⊢;generalize hHH:s2.heap.push { cls:=.type "list",dict:=none,data:=.seq ([]:List Value).toArray }=HH at hns₁ hsb₁ ⊢
 have hC:HH.objs.size=s2.heap.objs.size+1:=by rw[<-hHH,Heap.size_push]
 have hDC:s2.heap.objs.size≠HH.objs.size:=by rw[hC];exact ZaG (Nat.lt_succ_self _)
 have hCle:s2.heap.objs.size<=HH.objs.size:=by rw[hC];exact Nat.le_succ _
 have neC:∀ b,b<s2.heap.objs.size->b≠HH.objs.size:=λb hb=>by rw[hC];exact ZaG (Nat.lt_succ_of_lt hb)
 have old:∀ b o,s2.heap.get? b=some o->h₁.get? b=some o:=λb o e=>hsb₁.extBut b o (neC b (Zau e)) (Zaf _ (hHH▸Zaf _ e));have atD:h₁.get? s2.heap.objs.size=some { cls:=.type "list",data:=.seq ([]:List Value).toArray }:=hsb₁.extBut _ _ hDC (Zaf _ (hHH▸Zax _ rfl));have ltf:∀ b∈fp,b<s2.heap.objs.size:=λb hb=>let⟨o,e,_⟩:=T.obj _ _ st2 b hb;Zau e;have ltc:∀ x c,X.env.cells.lookup x=some c->c<s2.heap.objs.size:=λx c e=>let⟨v,q⟩:=I2.cell x c e;q.lt;have ltp:∀ p∈X.pn++pins,p.1<s2.heap.objs.size:=λp hp=>Zau (I2.pin p hp).1;have fresh:H2 s2.heap.objs.size=none:=I2.hok.fresh (Zag _);have freshC:H2 HH.objs.size=none:=I2.hok.fresh hCle;have ap:Apart X pins HH.objs.size:=⟨Nat.ne_of_gt (Zap I2.lt hCle),ZaQ I2.sz hCle,λx c e=>neC c (ltc x c e),λp hp=>neC _ (ltp p hp)⟩;have okY:(X.comp N scope cl HH.objs.size s2 H2 fp).Ok:={
  mod:=I2.ok.mod
  kind:=o2
  glob:=I2.ok.glob
  blt:=I2.ok.blt
  above:=hCle
  inj:=λx y c a b=>I2.ok.inj x y c (c1 _ _ a) (c1 _ _ b)
  has:=λx hx=>c2 x (lookup_mem (Cr (λz=>o3 _ (lookup_mem z) rfl) hx))
  cab:=λx c hx _=>by cases hx
  hd:=I2.ok.hd
  frames:=I2.ok.frames
  stk:=.inl rfl
  exf:=λb hb=>⟨neC b (ltf b hb),λx c e=>(f2 b hb).2.2.2.2.1 x c (c1 x c e)⟩
  bs:=I2.bs
  bsz:=ZaQ I2.ok.bsz I2.sz
  noex:=λb o e hb=>by
   rcases(f2 b hb).2.2.2.1 with z|z
   ·exact I2.ok.noex b o e z
   ·exact absurd (Zap (Zau e) (ZaQ I2.ok.bsz z)) (Zbv _)
  exfs:=λb hb hf=>by
   rcases ZaW.mp (I2.BZ b hf) with z|z
   ·exact(f2 b hb).2.1 z
   ·exact(f2 b hb).2.2.1 z
  pK:=I2.stack
  frf:=I2.DX }
 have IY:Inv (X.comp N scope cl HH.objs.size s2 H2 fp) [] (frσ fr σ) (upd H2 s2.heap.objs.size (.lst [])) { s2 with heap:=h₁,toks:=s2.toks+([]:List (Str×Value)).length }:={
  ok:=okY
  os:=rfl
  bare:=I2.bare
  base:=Un.laid old (Zag _) fresh
  loc:=by
   refine⟨_,hns₁,λj x v e1 e2 e3=>?_⟩;obtain⟨i,f1,f2'⟩:=Ls e2;obtain⟨g1,g2⟩:=o6 j i x f1 e1;have k2:=o5 _ (lookup_mem g2) rfl;obtain⟨m2,hm2,l2⟩:=I2.loc;obtain⟨u,ru,lk⟩:=l2 i x v g1 f2' (.inr k2);refine⟨u,ru,.inr ⟨pN g2,?_⟩⟩;obtain⟨c,hcl⟩:=c2 x (lookup_mem g2);refine⟨c,hcl,?_⟩;rcases lk with⟨k,_⟩|⟨_,c',e',z⟩
   ·rcases k2 with k2|k2
    ·rw[show X.env.kindOf x=X.env.scope.names.lookup x from rfl,k2] at k;cases k
    ·rw[show X.env.kindOf x=X.env.scope.names.lookup x from rfl,k2] at k;cases k
   ·rw[c1 x c hcl] at e';cases e';obtain⟨oc,hoc,hd⟩:=z;exact⟨oc,old c oc hoc,hd⟩
  cell:=λx c e=>by
   obtain⟨v,oc,hoc,hd⟩:=I2.cell x c (c1 x c e);exact⟨v,oc,old c oc hoc,hd⟩
  free:=(aq (Zbp hDC)).trans freshC
  freeC:=λx c e=>by
   rw[aq (ZaG (ltc x c (c1 x c e)))];exact I2.freeC x c (c1 x c e)
  pin:=λp hp=>by cases hp
  hok:=I2.hok.laid old (Zag _) ⟨Zbb _,[],0,.nil,atD⟩
  len:=by unfold frσ;rw[List.length_map];exact o1 }
 have stat:∀ {H':Hp}{pp:List (Addr×Obj)},pp=[]->(∀ b∈fp,H' b=none)->∀ b∈fp,oU (X.comp N scope cl HH.objs.size s2 H2 fp) pp H' b:=λ{H' pp} hp hn b hb=>by
  subst hp;exact⟨hn b hb,neC b (ltf b hb),λz=>okY.exfs b hb z,.inl hb,λx c e=>(f2 b hb).2.2.2.2.1 x c (c1 x c e),λp hp=>by cases hp⟩
 have back:∀ {σ':St}{H':Hp}{s':Shared},Inv (X.comp N scope cl HH.objs.size s2 H2 fp) [] σ' H' s'->Inv X pins σ H' s':=λ{σ' H' s'} I'=>
  I2.call' (ch:=fp) I'.os I'.base I'.hok I'.bare λb hb=>⟨(f2 b hb).2.2.2.1,(f2 b hb).2.1,(f2 b hb).2.2.2.2.1,(f2 b hb).2.2.2.2.2⟩
 have loop:∀ s₃:Shared,s₃={ s2 with heap:=h₁,toks:=s2.toks+([]:List (Str×Value)).length } ->
   codeAny (model X.prog X.w) X.A (.compLoop (.ListComp elt [⟨tg,iter,ifs,0⟩] scope pos) 0 (.ref it) (.ref s2.heap.objs.size) (compEnvC scope cl HH.objs.size X.env))
    (compPost (model X.prog X.w) X.A X.xe use Q' (.ref s2.heap.objs.size) HH.objs.size) s₃:=by
  rintro s₃ rfl;obtain⟨W,⟨m0,w0⟩,turn⟩:=hW s2.heap.objs.size fresh;refine Ha (λn s'=>∃ i σ' H',Inv (X.comp N scope cl HH.objs.size s2 H2 fp) [] σ' H' s'/\tn i s'.heap/\(∀ b∈fp,H' b=none)/\W i n σ' H') ?_ m0
   ⟨0,_,_,IY,T.keep _ _ _ st2 λb _ o e=>old b o e,λb hb=>by rw[aq (ZaG (ltf b hb))];exact(f2 b hb).1,w0⟩
  rintro n s3 ⟨i,σ3,H3,I3,st3,fr3,w3⟩;rcases turn i n σ3 H3 w3 with⟨stop,q⟩|⟨go,Nx,hN,step⟩
  ·refine thn (T.done (X.comp N scope cl HH.objs.size s2 H2 fp) rfl rfl rfl hc i [] s3 σ3 H3 _ I3 (stat rfl fr3) st3 stop) ?_;rintro r s4 ⟨hr,I4⟩;subst hr;obtain⟨m4,hm4,_⟩:=I4.loc;exact fin _ _ s4 H3 (back I4) I4.free ap ⟨m4,hm4⟩ q
  ·refine thn (T.item (X.comp N scope cl HH.objs.size s2 H2 fp) rfl rfl rfl hc i [] s3 σ3 H3 _ I3 (stat rfl fr3) st3 go) ?_;rintro r s4 ⟨u,hr,h4⟩;subst hr;refine thn h4 ?_;rintro _ s5 ⟨x,H5,I5,r5,y5,st5,fr5⟩;have I5':=I5.pinned (stat rfl fr5) (T.obj _ _ st5);refine Za9 (hg cl HH.objs.size s2 H2 fp _ s5 σ3 H5 x u _ I5' r5 (step x H5 y5)) (?_) λ_ _ f=>f.elim;rintro _ s6 ⟨σ6,H6,I6,q6⟩;have again:∀ {s7:Shared}{σ7:St}{H7:Hp},Inv (X.comp N scope cl HH.objs.size s2 H2 fp) ([]++uc fp s5.heap) σ7 H7 s7->Nx σ7 H7 ->
     ∃ m,m<n/\∃ i σ' H',Inv (X.comp N scope cl HH.objs.size s2 H2 fp) [] σ' H' s7/\tn i s7.heap/\(∀ b∈fp,H' b=none)/\W i m σ' H':=λ{s7 σ7 H7} I7 n7=>by
    obtain⟨m',hm,w7⟩:=hN σ7 H7 n7;refine⟨m',hm,i+1,σ7,H7,I7.ji,T.keep _ _ _ st5 λb hb o e=>(I7.pin (b,o) (Zaq _ (Zaq _ (kh hb e)))).1,λb hb=>?_,w7⟩;obtain⟨o,e,d⟩:=T.obj _ _ st5 b hb;exact(I7.pin (b,o) (Zaq _ (Zaq _ (kh hb e)))).2.1
   refine Za9 (ht cl HH.objs.size s2 H2 fp _ s6 σ6 H6 _ I6 q6) (?_) λ_ _ f=>f.elim;rintro b s7 ⟨H7,I7,q7⟩;cases b with
   |false=>
    rw[Zai (by decide)] at q7 ⊢
    exact again I7 q7
   |true=>
    rw[Zah rfl] at q7 ⊢;refine Za9 (he cl HH.objs.size s2 H2 fp _ s7 σ6 H7 _ I7 q7) (?_) λ_ _ f=>f.elim;rintro y s8 ⟨v,H8,I8,r8,q8⟩;obtain⟨ys,e8,l8,n8⟩:=q8;refine Za9 (gD (X:=X.comp N scope cl HH.objs.size s2 H2 fp) _ s8 σ6 H8 (.ref s2.heap.objs.size) [v] (.ref s2.heap.objs.size) [y] (λ_ H9=>Nx σ6 H9) I8 rfl (.cons r8 .nil) ⟨_,ys,v,rfl,rfl,e8,l8,n8⟩) (?_) λ_ _ f=>f.elim;rintro _ s9 ⟨_,H9,I9,_,n9⟩;exact again I9 n9
 exact codeAny_compStart_list (loop _ rfl) (T.self _ 0 _ _ _ (T.keep _ _ _ st2 λb _ o e=>old b o e) (loop _ rfl))
theorem fW(N:List Str)(fr:List (Option Nat))(hc:X.calm=true)(hi:PI X tg iter wi)(hg:∀ cl C s2 H2 fp,PG (X.comp N scope cl C s2 H2 fp) tg g)
  (ht:∀ cl C s2 H2 fp,Je (X.comp N scope cl C s2 H2 fp) ifs tc)(he:∀ cl C s2 H2 fp,PE (X.comp N scope cl C s2 H2 fp) elt te)
  (ok:uf X.N N X.env.scope scope fr=true:=by kernel_rfl)(hs:∀ x,foldedSetIterable iter X.env x=pure x:=by intro _;rfl) :
  PE X (.ListComp elt [⟨tg,iter,ifs,0⟩] scope pos) (ug wi fr g tc te):=by
 intro pins s σ H Q I h;rw[eval_ListComp];refine yZ (use:=none) N fr hc hi hg ht he ok hs I h λD C s' H' I' hn ap hm q=>?_;obtain⟨m,hm⟩:=hm;exact⟨m,hm,λh' sb=>⟨.ref D,H',I'.turned (t':=s'.toks) (λb o hb e=>(sb.2 b hb).trans e) hn ap.ne (.inr ap.ab) ap.cells ap.pins,rfl,q⟩⟩
theorem Eh{i:Nat}{y:Str}{py spos:Pos}(N:List Str)(fr:List (Option Nat))(hc:X.calm=true)(hN:X.N.Nodup)(hiy:X.N[i]?=some y)(hy:X.env.scope.names.lookup y=some .local)(hi:PI X tg iter wi)
  (hg:∀ cl C s2 H2 fp,PG (X.comp N scope cl C s2 H2 fp) tg g)(ht:∀ cl C s2 H2 fp,Je (X.comp N scope cl C s2 H2 fp) ifs tc)(he:∀ cl C s2 H2 fp,PE (X.comp N scope cl C s2 H2 fp) elt te)
  (ok:uf X.N N X.env.scope scope fr=true:=by kernel_rfl)(hs:∀ x,foldedSetIterable iter X.env x=pure x:=by intro _;rfl)
  (hsw:swapsWith (.ListComp elt [⟨tg,iter,ifs,0⟩] scope pos) (some (.Name y py)) spos.line X.env=pure true:=by rfl) :
  PS X (.Assign [.Name y py] (.ListComp elt [⟨tg,iter,ifs,0⟩] scope pos) spos) (GD (ug wi fr g tc te) (t7 i)):=by
 intro pins s σ H D I h;rw[exec_Assign_Name_used _ _ _ _ hsw];refine Zak (wpAny_standAt (Zak ?_));show wpAny _ X.A (do let _ <-comprehension (.ListComp elt [⟨tg,iter,ifs,0⟩] scope pos) scope X.env _ (newList []) false (eval iter X.env) (some (assign (.Name y py) X.env))) _ _ s
 refine Zak (Za9 (yZ (use:=some (assign (.Name y py) X.env)) (Q':=λ_ s'=>SP X pins D .next s') N fr hc hi hg ht he ok hs I h λDa C s' H' I' hn ap hm q=>?_) (λ_ s' hq=>ZaL (ZaL hq)) λ_ _ e=>e);obtain⟨m,hm⟩:=hm;show wpAny _ X.A (assign (.Name y py) X.env (.ref Da)) _ _ _
 refine wpAny_assign_Name (vP I' hN hiy (.inl hy) (v:=.ref Da) rfl (λs'' I'' hsb=>?_) (.inr hy));obtain⟨a,sb,ha⟩:=hsb;have hne:C≠a:=by
  rcases ha with z|z
  ·rw[z];exact ap.ne
  ·exact Zbp (ap.cells y a z)
 exact⟨m,hm.sameBut sb hne,λh' sb'=>⟨_,H',I''.turned (t':=s''.toks) (λb o hb e=>(sb'.2 b hb).trans e) hn ap.ne (.inr ap.ab) ap.cells ap.pins,q⟩⟩
end
section
variable{X:Cx}{pins:List (Addr×Obj)}{σ:List (Option V)}{H:Hp}{s:Shared}{h':Heap}
theorem Inv.nH{t':Nat}{ch:List Addr}(I:Inv X pins σ H s)(k:∀ b o,b ∉ ch->s.heap.get? b=some o->h'.get? b=some o)(hf:∀ b∈ch,oU X pins H b):Inv X pins σ H { s with heap:=h',toks:=t' }:=by
 have nit:∀ b u,H b=some u->b ∉ ch:=λb u e z=>by rw[(hf b z).1] at e;cases e
 refine I.step (g':=s.gens) (d':=s.drawn) (ch:=ch) (λb hb=>⟨(hf b hb).2.2.2.1,(hf b hb).2.1,(hf b hb).2.2.2.2.1,(hf b hb).2.2.2.2.2⟩) (λb o _ _ hc e _=>k b o hc e) (λb o _ _ hc e _=>⟨o.slots,k b o hc e⟩) (λ_ _ _ _ n=>n)
  (λb o hc e=>⟨o,k b o hc e⟩) (λ_ _ e=>e) (λ_ _ _ e=>e) (λb ps e=>⟨#[],by rw[e];simp⟩) (λm hm=>?_) (λb u e=>?_) I.bare
 ·obtain⟨o,es,ep,ho,r⟩:=hm;exact⟨o,es,ep,k _ o (λz=>(hf _ z).2.1 rfl) ho,r⟩
 ·refine(I.hok b u e).stay (λc v hc q=>k c v ?_ q) (λ_ q=>q) λ_ _ q=>q;rcases hc with z|z
  ·rw[z];exact nit b u e
  ·exact nit c _ z
theorem Inv.vZ{t':Nat}{ch:List Addr}{a:Addr}{o:HO}(I:Inv X pins σ H s)(k:∀ b o,b ∉ ch->s.heap.get? b=some o->h'.get? b=some o)(hf:∀ b∈ch,oU X pins H b)(ha:s.heap.objs.size<=a)
  (new:dg X.prog X.w (upd H a o) h' a o):Inv X pins σ (upd H a o) { s with heap:=h',toks:=t' }:=by
 have hn:H a=none:=I.hok.fresh ha;have nit:∀ b u,H b=some u->b ∉ ch:=λb u e z=>by rw[(hf b z).1] at e;cases e
 have ne:∀ b ob,s.heap.get? b=some ob->b≠a:=λb ob e z=>by rw[z] at e;exact absurd (Zap (Zau e) ha) (Zbv _)
 refine I.step (g':=s.gens) (d':=s.drawn) (ch:=ch) (λb hb=>⟨(hf b hb).2.2.2.1,(hf b hb).2.1,(hf b hb).2.2.2.2.1,(hf b hb).2.2.2.2.2⟩) (λb o _ _ hc e _=>k b o hc e) (λb o _ _ hc e _=>⟨o.slots,k b o hc e⟩) (λb ob _ e n=>by rw[aq (ne b ob e)];exact n)
  (λb o hc e=>⟨o,k b o hc e⟩) (λb xs e=>by rw[aq (aY e hn)];exact e) (λb ob u e=>by rw[aq (aY e hn)];exact e) (λb ps e=>⟨#[],by rw[aq (aY e hn),e];simp⟩) (λm hm=>?_) (λb u e=>?_) I.bare
 ·obtain⟨o,es,ep,ho,r⟩:=hm;exact⟨o,es,ep,k _ o (λz=>(hf _ z).2.1 rfl) ho,r⟩
 ·by_cases hb:b=a
  ·subst hb;rw[aK] at e;cases e;exact new
  ·rw[aq hb] at e;refine(I.hok b u e).stay (λc v hc q=>k c v ?_ q) (λc q=>by rw[aq (aY q hn)];exact q) λc xs q=>by rw[aq (aY q hn)];exact q
   rcases hc with z|z
   ·rw[z];exact nit b u e
   ·exact nit c _ z
end
def Itf(f:Nat->V)(n:Nat):It:=⟨λi _=>i<n,λi H x H'=>H'=H/\x=f i,λi _=>i=n⟩
def sgn(z:Str)(i:Nat):V:=.str ⟨#[z.cps.getD i 0]⟩
theorem v8{P:Program}{w:World}{A:Around}(hh:A.handled=none)(it:Addr)(z:Str)(t:Tok):Walks P w A it [it] [it] z.cps.size (SignAt z) (λi h=>h.IsStrIter it (strIterType z) z t i):=by
 unfold strIterType;split
 ·exact Walks.strAscii hh it z t
 ·exact Walks.strWide hh it z t
theorem Jg{P:Program}{w:World}{K:Frag}{tg:Expr}(it:Addr)(z:Str)(t:Tok):Turn P w K tg (Itf (sgn z) z.cps.size) [it] it (λi h=>h.IsStrIter it (strIterType z) z t i) where
 mem:=by simp
 obj:=λi h st b hb=>by
  have e:b=it:=by simpa using hb
  subst e;obtain⟨o,e,c,d⟩:=st;exact⟨o,e,λv z=>by rw[d] at z;cases z⟩
 keep:=λi h h' st k=>let⟨o,e,r⟩:=st;⟨o,k it (by simp) o e,r⟩
 item:=by
  intro X hP hw hK hc i pins s σ H E I hf st hg;subst hP hw hK;obtain⟨f0,f1,f2,f3,f4,f5⟩:=hf it (by simp)
  have W:=v8 (P:=X.prog) (w:=X.w) (I.ok.hd hc) it z t;refine W.item i s _ _ hg st λv h' tk hv st' kk=>?_;obtain⟨c,u,hx,rfl⟩:=hv;have I1:Inv X pins σ H { s with heap:=h',toks:=tk }:=I.turned (λb o hb e=>kk b o (by simpa using hb) e) f0 f1 f3 f4 f5
  obtain⟨o,e,cc,d⟩:=id st';have ec:z.cps.getD i 0=c:=by rw[Array.getD_eq_getD_getElem?,hx];rfl
  refine⟨_,rfl,yP (s:={ s with heap:=h',toks:=tk }) e cc d (by unfold strIterType;split<;>decide) ⟨sgn z i,H,I1,⟨u,?_⟩,⟨rfl,rfl⟩,st',λb hb=>(hf b hb).1⟩⟩
  rw[ec]
 done:=by
  intro X hP hw hK hc i pins s σ H E I hf st hg;subst hP hw hK;have hg':i=z.cps.size:=hg;subst hg';obtain⟨f0,f1,f2,f3,f4,f5⟩:=hf it (by simp)
  have W:=v8 (P:=X.prog) (w:=X.w) (I.ok.hd hc) it z t;exact W.done s _ _ st λh' tk kk=>⟨rfl,I.turned (λb o hb e=>kk b o (by simpa using hb) e) f0 f1 f3 f4 f5⟩
 self:=λA i s Q E st h=>by
  unfold strIterType at st;split at st
  ·exact wpAny_pyIter_striter_ascii st h
  ·exact wpAny_pyIter_striter_wide st h
def Ite(K:Frag)(a:Addr):It:=
 ⟨λi H=>∃ xs x,SqL K H a xs/\xs[i]?=some x,λi H x H'=>∃ p y,H p=none/\x=.ref p/\H'=upd H p (.tup [.int i,y])/\∀ xs,SqL K H a xs->xs[i]?=some y,λi H=>∃ xs,SqL K H a xs/\xs.length<=i⟩
theorem Hb{P:Program}{w:World}{K:Frag}{elts:List Expr}{x1:Nat}{pos:Pos}(a e it:Addr)(hei:e≠it) :
  Turn P w K (.Tuple elts x1 pos) (Ite K a) [e,it] e (λi h=>(∃ old,IsEnum h e it (i:Int) old)/\h.IsListIter it a i) where
 mem:=by simp
 obj:=λi h st b hb=>by
  obtain⟨⟨old,he⟩,o,ho,c,d⟩:=st;rcases ZaW.mp hb with z|z
  ·subst z;exact⟨_,he,λv q=>by cases q⟩
  ·have z:b=it:=by simpa using z
   subst z;exact⟨o,ho,λv q=>by rw[d] at q;cases q⟩
 keep:=λi h h' st k=>by
  obtain⟨⟨old,he⟩,hit⟩:=st;exact⟨⟨old,k e (by simp) _ he⟩,hit.at λo q=>k it (by simp) o q⟩
 item:=by
  intro X hP hw hK hc i pins s σ H E I hf st hg;subst hP hw hK;obtain⟨xs,x,hq,hx⟩:=hg;obtain⟨its,rv,p,hz⟩:=I.list hq;obtain⟨u,hu,ru⟩:=rv.get hx;obtain⟨⟨old,he⟩,hit⟩:=st;have hl:=p.isList;have hai:a≠it:=by
   rintro rfl;obtain⟨o1,e1,c1,_⟩:=hl;obtain⟨o2,e2,c2,_⟩:=hit;rw[e1] at e2;cases e2;rw[c1] at c2;exact absurd c2 (by decide)
  have hae:a≠e:=by
   rintro rfl;obtain⟨o1,e1,c1,_⟩:=hl;rw[he] at e1;cases e1;exact absurd (show Value.type "enumerate"=Value.type "list" from c1) (by decide)
  have D:=Draws.list (prog:=X.prog) (w:=X.w) (A:=X.A.in1) (I.ok.hd hc) it a hai its.toArray;have hlt:i<its.toArray.size:=by
   have:=(Zay.mp hu).1;simpa using this
  refine wpAny_pyNext_enum_itemD D he ⟨hit,hl⟩ hlt hei (by simp[hei,Zbp hae]) λv h1 tk hP ho hst hT hsz hk=>?_
  have ev:v=u:=by
   have hP':its.toArray[i]?=some v:=hP;rw[List.getElem?_toArray,hu] at hP';exact(Zad hP').symm
  subst ev;refine⟨_,rfl,wpAny_letOwnedTupleGo_enum ho λh2 he2 hs2=>?_⟩;have elt:e<s.heap.objs.size:=Zau he;have hT2:h2.get? s.heap.objs.size=some { cls:=.type "tuple",data:=.seq #[.int i tk,v] }:=(hs2.2 _ (Nat.ne_of_gt elt)).trans hT;refine⟨.ref s.heap.objs.size,upd H s.heap.objs.size (.tup [.int i,x]),I.vZ (ch:=[e,it]) (λb o hb q=>?_) hf (Zag _) ⟨by show 2<=sizeLine;decide,[.int i tk,v],.cons ⟨tk,rfl⟩ (.cons ru .nil),fP.mk hT2⟩,rfl,⟨_,x,I.hok.fresh (Zag _),rfl,rfl,λys hy=>by rw[I.t6 hy hq];exact hx⟩,⟨⟨v,by simpa using he2⟩,?_⟩,λb hb=>?_⟩
  ·have h1':b≠e:=λz=>hb (by simp[z])
   have h2':b≠it:=λz=>hb (by simp[z])
   exact(hs2.2 b h1').trans (hk b o h1' h2' q)
  ·exact hst.1.at λo q=>(hs2.2 it (Zbp hei)).trans q
  ·rw[aq ?_]
   ·exact(hf b hb).1
   ·rcases ZaW.mp hb with z|z
    ·rw[z];exact ZaG elt
    ·have z:b=it:=by simpa using z
     rw[z];obtain⟨o2,e2,_⟩:=hit;exact ZaG (Zau e2)
 done:=by
  intro X hP hw hK hc i pins s σ H E I hf st hg;subst hP hw hK;obtain⟨xs,hq,hx⟩:=hg;obtain⟨its,rv,p,hz⟩:=I.list hq;obtain⟨⟨old,he⟩,hit⟩:=st;have hl:=p.isList;have ln:=rv.length;refine wpAny_pyNext_enum_end (I.ok.hd hc) he hit hl (by rw[List.getElem?_toArray];exact List.getElem?_eq_none_iff.mpr (by omega)) λh1 eb=>⟨rfl,?_⟩
  exact I.nH (t':=s.toks) (ch:=[e,it]) (λb o hb q=>eb b o (λz=>hb (by simp[z])) q) hf
 self:=λA i s Q E st h=>by
  obtain⟨⟨old,he⟩,_⟩:=st;exact wpAny_pyIter_enum he h
def Ot(K:Frag)(ta:TA):TI:=λσ H R=>ta σ H λvs H1=>∃ a,vs=[.ref a]/\(∃ xs,SqL K H1 a xs)/\R (Ite K a) H1
theorem wY{X:Cx}{l:Expr}{ta:TA}{elts:List Expr}{x1:Nat}{tpos p pos:Pos}(hg:Gl X "enumerate")(hm:X.mg "enumerate"=none)(ha:PA X [l] ta)(hs:starEach [l] X.env=[(false,eval l X.env)]:=by rfl) :
  PI X (.Tuple elts x1 tpos) (.Call (.Name "enumerate" p) [l] [] pos) (Ot X.K ta):=by
 intro pins s σ H R I h;refine Call_ (tZ I hg hm boot_enumerate (PyProof.Rows.callWith_type1 (thn (ha pos pins s σ H _ I h) ?_) hs rfl));rintro us s1 ⟨vs,H1,I1,r1,q1⟩;obtain⟨a,e,⟨xs,hq⟩,q⟩:=q1;subst e;cases r1 with
 |cons r rr=>
  cases rr;cases r;obtain⟨its,rv,p,hz⟩:=I1.list hq;refine call_enumerate_list p.isList λh1 he hit hsz hk=>?_;refine wpAny_pyIter_enum he ?_;have I2:Inv X pins σ H1 { s1 with heap:=h1 }:=I1.kept (t':=s1.toks) hk;refine⟨s1.heap.objs.size+1,[s1.heap.objs.size+1,s1.heap.objs.size],_,_,H1,rfl,I2,Hb a _ _ (by simp),⟨⟨_,he⟩,hit⟩,λb hb=>?_,q⟩
  rcases ZaW.mp hb with z|z
  ·subst z;exact I1.t8 (Nat.le_succ _) (I1.hok.fresh (Nat.le_succ _))
  ·have z:b=s1.heap.objs.size:=by simpa using z
   subst z;exact I1.t8 (Zag _) (I1.hok.fresh (Zag _))
section
variable{X:Cx}{c e:Expr}
theorem Hc:OpR X (compareOp .LtE) (λx y H Q=>∃ i j,x=.str i/\y=.str j/\Q (.bl (!(decide (j.cps.toList<i.cps.toList)))) H):=by
 intro pins s σ H x y v u Q I rx ry h;obtain⟨i,j,rfl,rfl,q⟩:=h;obtain⟨t,rfl⟩:=rx;obtain⟨t',rfl⟩:=ry;exact PySem.P.le_str (wR I q rfl)
def Rz:V->Option Int->Option Int->Hp->VK->Prop:=λx lo hi H Q=>∃ z,x=.str z/\z.length<=sizeLine/\Q (.str (Txt.slice z lo hi)) H
theorem Jh:SlR X Rz:=by
 intro pins s σ H x v vl vu lo hi sl Q I rx hs pl pu h;obtain⟨z,rfl,hz,q⟩:=h;obtain⟨t,rfl⟩:=rx;obtain⟨o,e,c,d⟩:=hs;refine⟨"str",_,F.slot_str_getitem.lookup,typeIs_str _ _ _,?_⟩;have fin:∀ t' k,EP X pins σ Q (.str (Txt.slice z lo hi) t') { s with toks:=k }:=λt' k=>⟨.str _,H,I.tok _,⟨t',rfl⟩,q⟩;cases pl with
 |none=>
  cases pu with
  |none=>exact wpAny_getItem_str_slice (l:=none) (u:=none) (st:=none) ⟨o,e,c,d⟩ rfl (post_val_or_str ⟨ZaQ (Txt.slice_le z _ _) hz,fin⟩)
  |int j u=>exact wpAny_getItem_str_slice (l:=none) (u:=some (j,u)) (st:=none) ⟨o,e,c,d⟩ rfl (post_val_or_str ⟨ZaQ (Txt.slice_le z _ _) hz,fin⟩)
 |int i t2=>
  cases pu with
  |none=>exact wpAny_getItem_str_slice (l:=some (i,t2)) (u:=none) (st:=none) ⟨o,e,c,d⟩ rfl (post_val_or_str ⟨ZaQ (Txt.slice_le z _ _) hz,fin⟩)
  |int j u=>exact wpAny_getItem_str_slice (l:=some (i,t2)) (u:=some (j,u)) (st:=none) ⟨o,e,c,d⟩ rfl (post_val_or_str ⟨ZaQ (Txt.slice_le z _ _) hz,fin⟩)
end
structure bh(K:Frag)(mg:Str->Option Value)(x:Str)(st:Stmt)(ps:List Str):Prop where
 ex:∃ (f:Addr) (fd:FuncData),mg x=some (.ref f)/\Fun K x x st f fd/\Binds K fd ps []
def FnAt(P:Program)(w:World)(K:Frag)(mg:Str->Option Value)(base:Heap)(x:Str)(k:Nat)(ps:List Str)(sp:Sp):Prop:=
 ∃ (f:Addr) (fd:FuncData),mg x=some (.ref f)/\keepIn K (.ref f)=true/\Binds K fd ps []/\vA P w K mg base CX0 k f fd ps sp
theorem bh.ok{P:Program}{w:World}{K:Frag}{mg:Str->Option Value}{base:Heap}{x:Str}{st:Stmt}{ps N:List Str}{k:Nat}{sp:Sp}(D:bh K mg x st ps)(S:bf N ps (aA st))(len:∀ vs H Q E,sp vs H Q E->vs.length=ps.length)
  (hbody:∀ (f:Addr) (cdv:Value) (A:Around) (outer:List Env) (s:Shared) (H:Hp) (vs:List V) (Q:VK) (E:XK),dH k (A.deeper (envOfC x (aA st) s.heap.objs.size f cdv))->sp vs H Q E ->
   ∃ t,PSs (sE CX0 P w K mg base N x (aA st) f cdv A outer s H E).nox (aZ st) t/\t { nx:=λ_ H'=>Q .non H',rt:=Q } (start N vs) H):FnAt P w K mg base x (k+1) ps sp:=by
 obtain⟨f,fd,e,F,b⟩:=D.ex;exact⟨f,fd,e,F.kp,b,F.ok S len λcdv A outer s H vs Q E=>hbody f cdv A outer s H vs Q E⟩
section
variable{X:Cx}{k:Nat}{ps:List Str}{sp:Sp}{x:Str}{p pos:Pos}{e:Expr}{es:List Expr}{t:TA}
theorem aW(G:FnAt X.prog X.w X.K X.mg X.base x k ps sp)(hr:dH k X.A)(hg:Gl X x)(ha:PA X (e::es) t)(hdb:(x==("__debug__":Str))=false:=by decide)
  (he:starEach (e::es) X.env=(false,eval e X.env)::starEach es X.env:=by rfl)(hpl:(backTo pos (starEach es X.env)).any (·.1)=false:=by rfl):PE X (.Call (.Name x p) (e::es) [] pos) (ue sp [] E0 t):=by
 obtain⟨f,fd,e1,e2,e3,e4⟩:=G;exact Lj e4 hr hg e1 e2 e3 .nil Oq ha hdb he hpl
end
section
variable{X:Cx}{N:List Str}{scope:Scope}{cl:List (Str×Addr)}{C:Addr}{s2:Shared}{H2:Hp}{fp:List Addr}{x:Str}{pos:Pos}
theorem pvl(i:Nat)(hN:N[i]?=some x:=by rfl)(hv:scope.names.lookup x=some .local:=by rfl)(hd:(x==("__debug__":Str))=false:=by decide)(hcd:(x==("__classdict__":Str))=false:=by decide) :
  PE (X.comp N scope cl C s2 H2 fp) (.Name x pos) (qT i):=Cd hN (.inl (iT (by decide) hv)) hd hcd
theorem pvf(i:Nat)(hN:N[i]?=some x:=by rfl)(hv:scope.names.lookup x=some .free:=by rfl)(hd:(x==("__debug__":Str))=false:=by decide)(hcd:(x==("__classdict__":Str))=false:=by decide) :
  PE (X.comp N scope cl C s2 H2 fp) (.Name x pos) (qT i):=Cd hN (.inr (pN hv)) hd hcd
theorem glc(h:scope.names.lookup x=some .globalImplicit):Gl (X.comp N scope cl C s2 H2 fp) x:=iT (by decide) h
theorem cN{i:Nat}(hN:N.Nodup)(hi:N[i]?=some x)(hx:scope.names.lookup x=some .local):PG (X.comp N scope cl C s2 H2 fp) (.Name x pos) (t7 i):=
 bW hN hi (.inl (iT (by decide) hx)) (.inr (iT (by decide) hx))
end
section
variable{X:Cx}{x:Str}{z:Str}{pos:Pos}
theorem RC(hg:Gl X x)(h:∃ t,X.mg x=some (.str z t))(hd:(x==("__debug__":Str))=false:=by decide):PE X (.Name x pos) (tC (.str z)):=by
 obtain⟨t,h⟩:=h;exact Lf hg h ⟨t,rfl⟩ hd
end
theorem tyL{K:Frag}{H:Hp}{p:Addr}{xs:List V}(h:H p=some (.lst xs)):tyV K "list" (.ref p) H:=.inl ⟨rfl,xs,SqL.of h⟩
theorem eG{H:Hp}{p:Addr}{o:HO}(h:H p=none):aR H (upd H p o):=λb u e=>by rw[aq (aY e h)];exact e
theorem qY{H H1:Hp}{p:Addr}{o:HO}(h:H p=none)(s:aR H H1):aR H (upd H1 p o):=λb u e=>by rw[aq (aY e h)];exact s b u e
theorem aR.tup{K:Frag}{H H':Hp}{a:Addr}{xs:List V}(e:aR H H')(h:SqT K H a xs):SqT K H' a xs:=by
 rcases h with(h|⟨o,h⟩)|h
 ·exact .inl (.inl (e _ _ h))
 ·exact .inl (.inr ⟨o,e _ _ h⟩)
 ·exact .inr h
theorem uh{α:Type}{xs:List α}{i:Int}(h0:0<=i)(h:i<xs.length):∃ v,atI xs i=some v/\xs[i.toNat]?=some v:=by
 have hl:i.toNat<xs.length:=by lia
 refine⟨xs[i.toNat],?_,by simp[hl]⟩
 have:=iR (xs:=xs) (j:=i.toNat) (v:=xs[i.toNat]) (by simp[hl])
 rwa [Zbt h0] at this
def Td(J:It)(g:TG)(tb:TS)(D:Ends)(σ:St)(H:Hp):Prop:=∃ W:Nat->Nat->St->Hp->Prop,(∃ m,W 0 m σ H)/\∀ i m σ H,W i m σ H ->
 (J.stop i H/\D.nx σ H)\/(J.go i H/\∃ N:St->Hp->Prop,(∀ σ' H',N σ' H'->∃ m',m'<m/\W (i+1) m' σ' H')/\∀ x H',J.yld i H x H'->g x σ H' λσ2 H2=>tb { D with nx:=N,ct:=N,bk:=D.nx } σ2 H2)
def SameBut(p:Addr)(H H':Hp):Prop:=∀ b o,H b=some o->b≠p->H' b=some o
section
variable{X:Cx}{N:List Str}{scope:Scope}{cl:List (Str×Addr)}{C:Addr}{s2:Shared}{H2:Hp}{fp:List Addr}
theorem wZ{es:List Expr}{k:Nat}{t:TGs}{n:Nat}{pos:Pos}(hc:X.calm=true)(h:PGs (X.comp N scope cl C s2 H2 fp) es t)
  (hn:(assignEach es (X.comp N scope cl C s2 H2 fp).env).length=n:=by rfl)(hst:(assignEach es (X.comp N scope cl C s2 H2 fp).env).findIdx? (·.1)=none:=by rfl):PG (X.comp N scope cl C s2 H2 fp) (.Tuple es k pos) (PB X.K n t):=qU hc h hn hst
end
section
theorem pO{xs:List V}{its:List Value}(r:Vals xs its){j:Nat}(h:j<its.toArray.size):∃ x,xs[j]?=some x/\RelV x its.toArray[j]:=by
 have hl:j<its.length:=by simpa using h
 have hx:j<xs.length:=by rw[r.length];exact hl
 obtain⟨u,hu,ru⟩:=r.get (i:=j) (x:=xs[j]) (by simp[hx])
 refine⟨xs[j],by simp[hx],?_⟩
 have:its.toArray[j]=u:=by
  rw[Zaa hl] at hu;simpa using hu
 rw[this];exact ru
end
section
variable{k:Nat}
theorem Cu{A:Around}(hr:dH k A):A.units+32<cLine:=Nat.lt_of_le_of_lt (Nat.add_le_add_left (by decide:32<=64) _) hr.units
end
def w5(H:Hp)(xs:List V)(ps:List (Int×Int)):Prop:=xs.length=ps.length/\∀ (j:Nat) (c:Int×Int),ps[j]?=some c->∃ a,xs[j]?=some (.ref a)/\H a=some (.tup [.int c.1,.int c.2])
section
variable{κ:Type}[DecidableEq κ]
def iC(kvs:List (κ×V))(k:κ):Option V:=(kvs.find? λkv=>decide (kv.1=k)).map (·.2)
def putK(kvs:List (κ×V))(k:κ)(v:V):List (κ×V):=
 if(kvs.any λkv=>decide (kv.1=k))=true then kvs.map (λkv=>if kv.1=k then(kv.1,v) else kv) else kvs++[(k,v)]
theorem lW{p:κ×V}{r:List (κ×V)}{k:κ}(e:p.1=k):iC (p::r) k=some p.2:=by simp[iC,ZbM,e]
theorem jm{p:κ×V}{r:List (κ×V)}{k:κ}(e:¬p.1=k):iC (p::r) k=iC r k:=by simp[iC,ZbM,e]
theorem ul(k:κ):∀ kvs:List (κ×V),(kvs.any λkv=>decide (kv.1=k))=(iC kvs k).isSome
 |[]=>rfl
 |p::r=>by
  rw[ZbQ];by_cases e:p.1=k
  ·simp only[lW e,Zaz e,Bool.true_or,Option.isSome_some]
  ·rw[jm e,ZaD e,Bool.false_or];exact ul k r
theorem lX(kvs:List (κ×V))(k:κ)(v:V):(putK kvs k v).length<=kvs.length+1:=by
 unfold putK;split
 ·rw[List.length_map];omega
 ·rw[List.length_append,ZaK,List.length_nil];omega
theorem Ji{kvs:List (κ×V)}{k:κ}(v:V)(h:iC kvs k=none):putK kvs k v=kvs++[(k,v)]:=by
 unfold putK;rw[ul,h];exact Zai (by decide)
theorem tW.qZ{o:Option V}{u:Option Value}(r:tW o u):o.isSome=u.isSome:=by
 cases o with
 |none=>cases u with
  |none=>rfl
  |some _=>exact(show False from r).elim
 |some _=>cases u with
  |none=>exact(show False from r).elim
  |some _=>rfl
theorem KV.val{kvs:List (κ×V)}{vs:List (κ×Value)}(r:KV kvs vs)(k:κ):tW (iC kvs k) (valueAt vs k):=by
 unfold KV at r;induction r with
 |nil=>exact True.intro
 |@cons p q ps qs h t ih=>
  obtain⟨h1,h2⟩:=h;by_cases e:p.1=k
  ·have e':q.1=k:=h1.symm.trans e;have b:valueAt (q::qs) k=some q.2:=by simp[valueAt,ZbM,e']
   rw[lW e,b];exact h2
  ·have e':¬q.1=k:=λz=>e (h1.trans z);have b:valueAt (q::qs) k=valueAt qs k:=by simp[valueAt,ZbM,e']
   rw[jm e,b];exact ih
theorem KV.any{kvs:List (κ×V)}{vs:List (κ×Value)}(r:KV kvs vs)(k:κ):(kvs.any λkv=>decide (kv.1=k))=vs.any λkv=>decide (kv.1=k):=by
 unfold KV at r;induction r with
 |nil=>rfl
 |cons h t ih=>rw[ZbQ,ZbQ,ih,h.1]
theorem KV.repl{kvs:List (κ×V)}{vs:List (κ×Value)}(r:KV kvs vs)(k:κ){y:V}{u:Value}(ry:RelV y u) :
  KV (kvs.map λkv=>if kv.1=k then(kv.1,y) else kv) (vs.map λkv=>if kv.1=k then(kv.1,u) else kv):=by
 unfold KV at r ⊢;induction r with
 |nil=>exact .nil
 |@cons p q ps qs h t ih=>
  rw[Zal,Zal];refine .cons ?_ ih;obtain⟨h1,h2⟩:=h;by_cases e:p.1=k
  ·rw[Zah e,Zah (h1.symm.trans e)];exact⟨h1,ry⟩
  ·rw[Zai e,Zai (λz=>e (h1.trans z))];exact⟨h1,h2⟩
theorem KV.put{kvs:List (κ×V)}{vs:List (κ×Value)}(r:KV kvs vs)(k:κ){y:V}{u:Value}(ry:RelV y u):KV (putK kvs k y) (stored vs k u):=by
 unfold putK stored;rw[r.any k];by_cases e:(vs.any λkv=>decide (kv.1=k))=true
 ·rw[Zah e,Zah e];exact r.repl k ry
 ·rw[Zai e,Zai e];exact Paired.snoc r ⟨rfl,ry⟩
theorem KV.keys{kvs:List (κ×V)}{vs:List (κ×Value)}(r:KV kvs vs):kvs.map (·.1)=vs.map (·.1):=by
 unfold KV at r;induction r with
 |nil=>rfl
 |cons h t ih=>rw[Zal,Zal,ih,h.1]
theorem KV.length{kvs:List (κ×V)}{vs:List (κ×Value)}(r:KV kvs vs):kvs.length=vs.length:=Paired.length r
end
theorem za{P:Program}{w:World}{k:Key}{u:Value}(r:RelV (kV k) u):(bR P w).is k u=true:=by
 cases k with
 |inl i=>obtain⟨t,e⟩:=(show ∃ t,u=Value.int i t from r);subst e;exact yL P w i t
 |inr x=>obtain⟨t,e⟩:=(show ∃ t,u=Value.str x t from r);subst e;exact yM P w x t
theorem wg{P:Program}{w:World}:∀ {ks:List Key}{us:List Value},Vals (ks.map kV) us->ItemsAre (bR P w) ks us
 |[],_,r=>by rw[List.map_nil] at r;cases r;exact .nil
 |k::ks,_,r=>by
  rw[Zal] at r;cases r with
  |cons h t=>exact .cons (za h) (wg t)
noncomputable abbrev KT(H:Hp):List (List Key×V)->List (List Key×Addr×Value)->Prop:=Paired λp q=>p.1=q.1/\H q.2.1=some (.tup (p.1.map kV))/\RelV p.2 q.2.2
theorem KT.val{H:Hp}{kvs:List (List Key×V)}{xs:List (List Key×Addr×Value)}(r:KT H kvs xs)(k:List Key):tW (iC kvs k) ((atKey xs k).map (·.2)):=by
 induction r with
 |nil=>exact True.intro
 |@cons p q ps qs h t ih=>
  obtain⟨h1,_,h2⟩:=h;by_cases e:p.1=k
  ·have e':q.1=k:=h1.symm.trans e;have b:atKey (q::qs) k=some q.2:=by simp[atKey,ZbM,e']
   rw[lW e,b];exact h2
  ·have e':¬q.1=k:=λz=>e (h1.trans z);have b:atKey (q::qs) k=atKey qs k:=by simp[atKey,ZbM,e']
   rw[jm e,b];exact ih
theorem KT.repl{H:Hp}{kvs:List (List Key×V)}{xs:List (List Key×Addr×Value)}(r:KT H kvs xs)(k:List Key){y:V}{u:Value}(ry:RelV y u) :
  KT H (kvs.map λkv=>if kv.1=k then(kv.1,y) else kv) (xs.map (putAt k u)):=by
 induction r with
 |nil=>exact .nil
 |@cons p q ps qs h t ih=>
  rw[Zal,Zal];refine .cons ?_ ih;obtain⟨h1,h2,h3⟩:=h;unfold putAt;by_cases e:p.1=k
  ·rw[Zah e,Zah (h1.symm.trans e)];exact⟨h1,h2,ry⟩
  ·rw[Zai e,Zai (λz=>e (h1.trans z))];exact⟨h1,h2,h3⟩
theorem KT.put{H:Hp}{kvs:List (List Key×V)}{xs:List (List Key×Addr×Value)}(r:KT H kvs xs)(k:List Key){b:Addr}{y:V}{u:Value}(hb:H b=some (.tup (k.map kV)))(ry:RelV y u) :
  KT H (putK kvs k y) (storedH xs k b u):=by
 have e:(kvs.any λkv=>decide (kv.1=k))=(atKey xs k).isSome:=by
  rw[ul,(r.val k).qZ,Option.isSome_map]
 unfold putK storedH;rw[e];by_cases q:(atKey xs k).isSome=true
 ·rw[Zah q,Zah q];exact r.repl k ry
 ·rw[Zai q,Zai q];exact Paired.snoc r ⟨rfl,hb,ry⟩
theorem KT.keeps{H H':Hp}{kvs:List (List Key×V)}{xs:List (List Key×Addr×Value)}(r:KT H kvs xs)(ht:∀ b ys,H b=some (.tup ys)->H' b=some (.tup ys)):KT H' kvs xs:=
 Paired.Py r λ_ _ z=>⟨z.1,ht _ _ z.2.1,z.2.2⟩
section
variable{P:Program}{w:World}{H:Hp}{h:Heap}{a:Addr}
theorem Ou{u:HO}(ok:HOk P w H h)(e:Rd H a u):dg P w H h a u:=e.ok ok
theorem wj{kvs:List (Key×V)}(ok:HOk P w H h)(e:Rd H a (.dK kvs)):kvs.length<=sizeLine/\(a==sysModules)=false/\∃ vs,KV kvs vs/\h.DictOf (bR P w) a vs:=
 show dg P w H h a (.dK kvs) from Ou ok e
theorem Ov{kvs:List (Key×V)}(ok:HOk P w H h)(e:H a=some (.dK kvs)):kvs.length<=sizeLine/\(a==sysModules)=false/\∃ vs,KV kvs vs/\h.DictOf (bR P w) a vs:=wj ok (.inl e)
theorem w6{ks:List Key}(ok:HOk P w H h)(e:H a=some (.tup (ks.map kV))):(tupleKind (bR P w)).is h ks a:=by
 obtain⟨_,its,r,⟨o,h1,h2,n,h3⟩,_⟩:=(show dg P w H h a (.tup (ks.map kV)) from ok a _ e);exact⟨o,its.toArray,n,h1,h2,h3,by simpa using wg r⟩
theorem zb{kvs:List (List Key×V)}(ok:HOk P w H h)(e:Rd H a (.dT kvs)):kvs.length<=sizeLine/\(a==sysModules)=false /\
  ∃ xs,KT H kvs xs/\h.DictOfH (tupleKind (bR P w)) a xs:=by
 obtain⟨z,y,xs,r,o,es,ep,h1,h2,h3,h4,h5⟩:=(show dg P w H h a (.dT kvs) from Ou ok e);refine⟨z,y,xs,r,o,es,ep,h1,h2,h3,h4,λx hx=>?_,h5⟩;have all:∀ {l:List (List Key×V)}{m:List (List Key×Addr×Value)},KT H l m->∀ x∈m,(tupleKind (bR P w)).is h x.1 x.2.1:=by
  intro l m q;induction q with
  |nil=>intro x hx;exact nomatch hx
  |@cons p q ps qs hq t ih=>
   intro x hx;rcases ZaW.mp hx with e|hx
   ·subst e;exact w6 ok (by rw[<-hq.1];exact hq.2.1)
   ·exact ih x hx
 exact all r x hx
theorem RG{kvs:List (List Key×V)}(ok:HOk P w H h)(e:H a=some (.dT kvs)):kvs.length<=sizeLine/\(a==sysModules)=false /\
  ∃ xs,KT H kvs xs/\h.DictOfH (tupleKind (bR P w)) a xs:=zb ok (.inl e)
end
def zc(H:Hp)(a:Addr)(y:V)(r:Option V):Prop:=
 (∃ kvs k,Rd H a (.dK kvs)/\y=kV k/\r=iC kvs k)\/∃ kvs k b,Rd H a (.dT kvs)/\y=.ref b/\H b=some (.tup (k.map kV))/\r=iC kvs k
def sI(H:Hp)(a:Addr)(y v:V)(H':Hp):Prop:=
 (∃ kvs k,H a=some (.dK kvs)/\y=kV k/\kvs.length<sizeLine/\H'=upd H a (.dK (putK kvs k v))) \/
 ∃ kvs k b,H a=some (.dT kvs)/\y=.ref b/\H b=some (.tup (k.map kV))/\kvs.length<sizeLine/\H'=upd H a (.dT (putK kvs k v))
theorem sI.k{H:Hp}{a:Addr}{kvs:List (Key×V)}{k:Key}{v:V}(e:H a=some (.dK kvs))(hl:kvs.length<sizeLine):sI H a (kV k) v (upd H a (.dK (putK kvs k v))):=.inl ⟨kvs,k,e,rfl,hl,rfl⟩
theorem sI.t{H:Hp}{a b:Addr}{kvs:List (List Key×V)}{k:List Key}{v:V}(e:H a=some (.dT kvs))(eb:H b=some (.tup (k.map kV)))(hl:kvs.length<sizeLine) :
  sI H a (.ref b) v (upd H a (.dT (putK kvs k v))):=.inr ⟨kvs,k,b,e,rfl,eb,hl,rfl⟩
section
variable{X:Cx}{pins:List (Addr×Obj)}{σ:St}{H:Hp}{s:Shared}{a:Addr}{y v:V}{u:Value}{o:Option V}{A:Around}{E:Value->Shared->Prop}
theorem Inv.big(I:Inv X pins σ H s):sysModules<s.heap.objs.size:=by
 have h:mainGlobals<s.heap.objs.size:=(I.mod.glob.keeps I.bk).lt;exact ZbN (by decide) h
theorem Hd{Q:Value->Shared->Prop}(hu:A.units+1<cLine)(I:Inv X pins σ H s)(g:zc H a y (some v))(ry:RelV y u)(h:∀ w' s',Inv X pins σ H s'->RelV v w'->Q w' s') :
  wpAny (model X.prog X.w) A (getItem (.ref a) u) Q E s:=by
 rcases g with⟨kvs,k,e,ey,l⟩|⟨kvs,k,b,e,ey,eb,l⟩
 ·subst ey;obtain⟨z,hd,vs,rel,dd⟩:=wj I.hok e;obtain⟨w',hw,rw'⟩:=tW.some_of (v:=v) (o:=valueAt vs k) (by rw[l];exact rel.val k)
  exact wpAny_getItem_of (za ry) dd.mapOf hw (h w' _ (I.tok _) rw')
 ·subst ey;cases (show u=Value.ref b from ry);obtain⟨z,hd,xs,rel,dd⟩:=zb I.hok e;obtain⟨w',hw,rw'⟩:=tW.some_of (v:=v) (o:=(atKey xs k).map (·.2)) (by rw[l];exact rel.val k)
  obtain⟨p,hp,hp2⟩:=ZbG.mp hw;refine wpAny_getItem_heap (tupleKind_room_in1 hu) (w6 I.hok eb) dd hp ?_;rw[hp2];exact h w' _ (I.tok _) rw'
theorem Lw{Q:Value->Shared->Prop}(hu:A.units+1<cLine)(I:Inv X pins σ H s)(g:zc H a y o)(ry:RelV y u)(h:∀ s',Inv X pins σ H s'->Q (.bool (!o.isSome)) s') :
  wpAny (model X.prog X.w) A (compareOp .NotIn u (.ref a)) Q E s:=by
 rcases g with⟨kvs,k,e,ey,l⟩|⟨kvs,k,b,e,ey,eb,l⟩
 ·subst ey;obtain⟨z,hd,vs,rel,dd⟩:=wj I.hok e;refine wpAny_notIn_of (za ry) hd dd.mapOf ?_;rw[<-(rel.val k).qZ,<-l];exact h _ (I.tok _)
 ·subst ey;cases (show u=Value.ref b from ry);obtain⟨z,hd,xs,rel,dd⟩:=zb I.hok e;refine wpAny_notIn_heap (tupleKind_room_in1 hu) (w6 I.hok eb) hd dd ?_;have q:=(rel.val k).qZ;rw[Option.isSome_map] at q;rw[<-q,<-l];exact h _ (I.tok _)
theorem xf{h':Heap}{t':Nat}{ob:HO}(I:Inv X pins σ H s)(mu:Mut (H a))(hs:Heap.SameBut a s.heap h')(he:∃ q,h'.get? a=some q)(new:dg X.prog X.w (upd H a ob) h' a ob) :
  Inv X pins σ (upd H a ob) { s with heap:=h',toks:=t' }:=
 I.write (x:=a) (e:=a) mu (.inl rfl) (λb q hb z=>(hs.2 b hb).trans z) he new
theorem Jj{P:Program}{w:World}{H':Hp}{h':Heap}{kvs:List (Key×V)}{vs:List (Key×Value)}(z:kvs.length<=sizeLine)(hd:(a==sysModules)=false)(rel:KV kvs vs)(dd:h'.DictOf (bR P w) a vs) :
  dg P w H' h' a (.dK kvs):=⟨z,hd,vs,rel,dd⟩
end
def Lx(i:Expr):Prop:=∀ ov iv,subscripted i false ov iv=operate [ov,iv] (getItem ov iv)
theorem Ly{prog:Program}{w:World}{A:Around}{E:Value->Shared->Prop}{s:Shared}{env:Env}{value slice:Expr}{pos:Pos}{T id:String}{Q:Value->Shared->Prop}
  (hl:typeLookup (.type T) "__getitem__"=pure (some (.builtin id)))(hs:Lx slice)
  (h:wpAny (model prog w) A (eval value env) (λo s₁=>wpAny (model prog w) A (eval slice env) (λi s₂=>s₂.TypeIs o T/\wpAny (model prog w) A (getItem o i) Q E s₂) E s₁) E s) :
  wpAny (model prog w) A (eval (.Subscript value slice pos) env) Q E s:=by
 refine Subscript_ (Za9 h (λo s₁ h₁=>Za9 h₁ (λi s₂ h₂=>?_) λ_ _ x=>x) λ_ _ x=>x);obtain⟨hT,h₂⟩:=h₂;unfold subscriptTail;refine Zak ?_;rw[getitemInPython_of_ne hT.not_modules];refine Zak (wpAny_specialOf hT hl ?_);have fin:wpAny (model prog w) A (subscripted slice false o i) (λr s₃=>wpAny (model prog w) A (letTemporaryGo value o r>>=λ_=>pure r) Q E s₃) E s₂:=by
  rw[hs o i];exact wpAny_operating (Za9 h₂ (λr s₃ h₃=>Zak (wpAny_letTemporaryGo (ZaL h₃))) λ_ _ x=>x)
 first
  |exact ZaL (Zak fin)
  |exact Zak (ZaL (Zak fin))
  |exact Zak fin
theorem zf{X:Cx}{pins:List (Addr×Obj)}{σ:St}{H:Hp}{s:Shared}{a:Addr}{y:V}{o:Option V}(I:Inv X pins σ H s)(g:zc H a y o):s.TypeIs (.ref a) "dict":=by
 rcases g with⟨kvs,k,e,_,_⟩|⟨kvs,k,b,e,_,_,_⟩
 ·obtain⟨_,_,vs,_,dd⟩:=wj I.hok e;exact dd.typeIs
 ·obtain⟨_,_,xs,_,dd⟩:=zb I.hok e;exact dd.typeIs
def Ei(td ty:TE):TE:=λσ H Q=>td σ H λx H1=>ty σ H1 λy H2=>∃ a v,x=.ref a/\zc H2 a y (some v)/\Q v H2
section
variable{X:Cx}{o i:Expr}{pos:Pos}{td ty:TE}
theorem Ej(hu:X.A.units+1<cLine)(ho:PE X o td)(hi:PE X i ty)(hs:Lx i):PE X (.Subscript o i pos) (Ei td ty):=by
 intro pins s σ H Q I h;refine Ly PySem.F.slot_dict_getitem.lookup hs (thn (ho pins s σ H _ I h) λu s1 ⟨x,H1,I1,rx,q1⟩=>thn (hi pins s1 σ H1 _ I1 q1) ?_);rintro iv s2 ⟨y,H2,I2,ry,a,v,ex,g,q2⟩;subst ex;obtain rfl:u=Value.ref a:=rx;exact⟨zf I2 g,Hd hu I2 g ry λw' s3 I3 rw'=>⟨v,H2,I3,rw',q2⟩⟩
end
theorem zg{P:Program}{w:World}{H:Hp}(h:Heap)(hb:sysModules<h.objs.size):dg P w H (h.push { cls:=.type "dict",data:=.dict #[] }) h.objs.size (.dK []):=
 ⟨Zbb _,beq_eq_false_iff_ne.mpr (Zbp (ZaG hb)),[],.nil,Heap.DictOf.new h⟩
theorem Jk{P:Program}{w:World}{H:Hp}(h:Heap)(hb:sysModules<h.objs.size):dg P w H (h.push { cls:=.type "dict",data:=.dict #[] }) h.objs.size (.dT []):=
 ⟨Zbb _,beq_eq_false_iff_ne.mpr (Zbp (ZaG hb)),[],.nil,_,#[],0,Zax _ rfl,⟨rfl,rfl,rfl⟩,rfl,rfl,List.nodup_nil⟩
def Jl:TE:=λ_ H Q=>∀ p,H p=none->Q (.ref p) (upd H p (.dK []))
section
variable{X:Cx}{pos:Pos}
theorem zj:PE X (.Dict [] [] pos) Jl:=λpins s σ H Q I h=>
 wpAny_Dict_empty ⟨.ref s.heap.objs.size,_,I.laid (a:=s.heap.objs.size) (o:=.dK []) (t':=s.toks) (λ_ _ q=>Zaf _ q) (Zag _) (zg s.heap I.big),rfl,h _ (I.hok.fresh (Zag _))⟩
end
def Jm:List (TE×TE)->St->Hp->(List (V×V)->Hp->Prop)->Prop
 |[],_,H,Q=>Q [] H
 |(tk,tv)::r,σ,H,Q=>tk σ H λx H1=>tv σ H1 λy H2=>Jm r σ H2 λps H3=>Q ((x,y)::ps) H3
noncomputable abbrev VV:List (V×V)->List (Value×Value)->Prop:=Paired λp q=>RelV p.1 q.1/\RelV p.2 q.2
def PPs(X:Cx)(pos:Pos)(keys:List (Option Expr))(values:List Expr)(trs:List (TE×TE)):Prop:=
 ∀ (pins:List (Addr×Obj)) (s:Shared) (σ:St) (H:Hp) (Q:List (V×V)->Hp->Prop),Inv X pins σ H s->Jm trs σ H Q ->
  wpAny (model X.prog X.w) X.A (evalPairs (pairTrees keys values X.env pos)) (λvs s'=>∃ ps H',Inv X pins σ H' s'/\VV ps vs/\Q ps H') X.xe s
structure M2(X:Cx)(o:Expr)(m:Str)(apos:Pos)(e f:Expr)(cpos:Pos):Prop where
 base:attributeBase o m X.env (eval o X.env)=eval o X.env
 few:((backTo cpos (starEach [e,f] X.env)).all (λx=>!x.1)&&(backToKw cpos (keywordEach [] X.env)).all (λx=>x.1.isSome)
  && decide (([e,f]:List Expr).length+([]:List Keyword).length+(if([]:List Keyword).isEmpty then 0 else 1)<30))=true
 line:(apos.endLine==cpos.line)=true
 trees:backTo cpos (starEach [e,f] X.env)=[(false,eval e X.env),(false,eval f X.env)]
def IsD(H:Hp)(a:Addr):Prop:=(∃ kvs,Rd H a (.dK kvs))\/∃ kvs,Rd H a (.dT kvs)
theorem Jo{X:Cx}{pins:List (Addr×Obj)}{σ:St}{H:Hp}{s:Shared}{a:Addr}(I:Inv X pins σ H s)(d:IsD H a) :
  s.TypeIs (.ref a) "dict"/\(∀ b,Value.ref a=.ref b->∃ ob,s.heap.get? b=some ob/\ob.dict=none)/\(a==sysModules)=false:=by
 rcases d with⟨kvs,e⟩|⟨kvs,e⟩
 ·obtain⟨_,hd,vs,_,dd⟩:=wj I.hok e;refine⟨dd.typeIs,λb q=>?_,hd⟩;cases q;obtain⟨ob,_,_,h1,h2,_⟩:=dd;exact⟨ob,h1,h2.2.1⟩
 ·obtain⟨_,hd,xs,_,dd⟩:=zb I.hok e;refine⟨dd.typeIs,λb q=>?_,hd⟩;cases q;obtain⟨ob,_,_,h1,h2,_⟩:=dd;exact⟨ob,h1,h2.2.1⟩
end L2
namespace L2.MP
open PySem PySem.Spec PyProof.Rows
inductive PV where
 |non|bl (b:Bool)|int (i:Int)|str (x:Str)|ty (n:String)
 |tup (l:List PV)|lst (l:List PV)|dk (l:List (Key×PV))|dt (l:List (List Key×PV))
 |exc (c:Str) (fs:List (Str×PV))
noncomputable instance:Inhabited PV:=⟨.non⟩
def PV.flat:PV->Bool
 |.non|.bl _|.int _|.str _|.ty _=>true
 |_=>false
def Cv:Nat->PV->Bool
 |0,p=>p.flat
 |n+1,.tup l=>l.all (Cv n)
 |_+1,p=>p.flat
def PV.still(p:PV):Bool:=Cv 5 p
inductive Res(α:Type) where
 |ok (a:α)|ex (z:PV)
def bnd{α β:Type}(x:Option (Res α))(k:α->Option (Res β)):Option (Res β):=match x with
 |some (.ok a)=>k a
 |some (.ex z)=>some (.ex z)
 |none=>none
def XO(e C:Addr)(d:Option Addr):HO:=.ext λh=>∃ vs:Array Value,h.get? e=some { cls:=.ref C,dict:=d,data:=.fields vs }
structure XNm(K:Frag)(C:Addr)(c:Str):Prop where
 ns:nsIn K mainGlobals c=some (some (.ref C))
 cl:∃ cd,PySem.W.clsIn K C=some cd/\cd.name=c
inductive Rep(K:Frag)(F:Hp):V->PV->Prop
 |non:Rep K F .non .non
 |bl {b:Bool}:Rep K F (.bl b) (.bl b)
 |int {i:Int}:Rep K F (.int i) (.int i)
 |str {x:Str}:Rep K F (.str x) (.str x)
 |ty {n:String}:Rep K F (.ty n) (.ty n)
 |tup {a:Addr}{xs:List V}{l:List PV} (h:F a=some (.tup xs)) (hl:xs.length=l.length) (hr:∀ (j:Nat) x p,xs[j]?=some x->l[j]?=some p->Rep K F x p):Rep K F (.ref a) (.tup l)
 |lst {a:Addr}{xs:List V}{l:List PV} (h:SqL K F a xs) (hl:xs.length=l.length) (hr:∀ (j:Nat) x p,xs[j]?=some x->l[j]?=some p->Rep K F x p):Rep K F (.ref a) (.lst l)
 |dk {a:Addr}{xs:List (Key×V)}{l:List (Key×PV)} (h:Rd F a (.dK xs)) (hl:xs.map (·.1)=l.map (·.1)) (hr:∀ (j:Nat) x p,xs[j]?=some x->l[j]?=some p->Rep K F x.2 p.2):Rep K F (.ref a) (.dk l)
 |dt {a:Addr}{xs:List (List Key×V)}{l:List (List Key×PV)} (h:Rd F a (.dT xs)) (hl:xs.map (·.1)=l.map (·.1)) (hr:∀ (j:Nat) x p,xs[j]?=some x->l[j]?=some p->Rep K F x.2 p.2):Rep K F (.ref a) (.dt l)
 |exc {a C dx:Addr}{c:Str}{xs:List (Str×V)}{l:List (Str×PV)} (nm:XNm K C c) (h:F a=some (XO a C (some dx))) (hd:F dx=some (.xd xs)) (hl:xs.map (·.1)=l.map (·.1)) (hr:∀ (j:Nat) x p,xs[j]?=some x->l[j]?=some p->Rep K F x.2 p.2):Rep K F (.ref a) (.exc c l)
 |exc0 {a C:Addr}{c:Str} (nm:XNm K C c) (h:F a=some (XO a C none)):Rep K F (.ref a) (.exc c [])
def bQ(K:Frag)(F:Hp)(xs:List V)(l:List PV):Prop:=xs.length=l.length/\∀ (j:Nat) x p,xs[j]?=some x->l[j]?=some p->Rep K F x p
section
variable{K:Frag}{F F':Hp}{v:V}{p:PV}{xs ys:List V}{l m:List PV}
theorem _root_.L2.Rd.same{F F':Hp}{a:Addr}{u:HO}(h:Rd F a u)(s:aR F F'):Rd F' a u:=h.imp (s _ _) λ⟨o,e⟩=>⟨o,s _ _ e⟩
theorem Rep.up(h:Rep K F v p)(s:aR F F'):Rep K F' v p:=by
 induction h with
 |non=>exact .non
 |bl=>exact .bl
 |int=>exact .int
 |str=>exact .str
 |ty=>exact .ty
 |tup h hl _ ih=>exact .tup (s _ _ h) hl ih
 |lst h hl _ ih=>exact .lst (s.seq h) hl ih
 |dk h hl _ ih=>exact .dk (h.same s) hl ih
 |dt h hl _ ih=>exact .dt (h.same s) hl ih
 |exc nm h hd hl _ ih=>exact .exc nm (s _ _ h) (s _ _ hd) hl ih
 |exc0 nm h=>exact .exc0 nm (s _ _ h)
theorem bQ.up(h:bQ K F xs l)(s:aR F F'):bQ K F' xs l:=⟨h.1,λj x p a b=>(h.2 j x p a b).up s⟩
theorem bQ.nil:bQ K F [] []:=⟨rfl,λj x p h=>by simp at h⟩
theorem bQ.cons(h:Rep K F v p)(t:bQ K F xs l):bQ K F (v::xs) (p::l):=by
 refine⟨by simp[t.1],λj x q a b=>?_⟩
 cases j with
 |zero=>simp at a b;subst a b;exact h
 |succ j=>exact t.2 j x q (by simpa using a) (by simpa using b)
theorem bQ.append(h:bQ K F xs l)(t:bQ K F ys m):bQ K F (xs++ys) (l++m):=by
 refine⟨by rw[List.length_append,List.length_append,h.1,t.1],λj x p a b=>?_⟩
 by_cases hj:j<xs.length
 ·rw[Zav hj] at a;rw[Zav (by rw[<-h.1];exact hj)] at b
  exact h.2 j x p a b
 ·rw[Zaw (by lia)] at a
  rw[Zaw (by rw[<-h.1];lia),<-h.1] at b
  exact t.2 _ x p a b
theorem bQ.snoc(h:bQ K F xs l)(t:Rep K F v p):bQ K F (xs++[v]) (l++[p]):=h.append (bQ.nil.cons t)
theorem bQ.get(h:bQ K F xs l){j:Nat}(e:l[j]?=some p):∃ x,xs[j]?=some x/\Rep K F x p:=by
 have hj:j<xs.length:=by rw[h.1];exact(Zay.mp e).1
 exact⟨xs[j],by simp[hj],h.2 j _ p (by simp[hj]) e⟩
theorem bQ.got(h:bQ K F xs l){j:Nat}(e:xs[j]?=some v):∃ p,l[j]?=some p/\Rep K F v p:=by
 have hj:j<l.length:=by rw[<-h.1];exact(Zay.mp e).1
 exact⟨l[j],by simp[hj],h.2 j v _ e (by simp[hj])⟩
theorem bQ.eN(h:bQ K F xs (p::l)):∃ v ys,xs=v::ys/\Rep K F v p/\bQ K F ys l:=by
 obtain⟨hl,hr⟩:=h
 match xs,hl,hr with
 |[],hl,_=>simp at hl
 |v::ys,hl,hr=>exact⟨v,ys,rfl,hr 0 v p rfl rfl,by simpa using hl,λj x q a b=>hr (j+1) x q (by simpa using a) (by simpa using b)⟩
theorem bQ.jy(h:bQ K F xs []):xs=[]:=by
 have:=h.1;simpa using this
theorem bQ.xg:∀ (ns:List Int),bQ K F (ns.map V.int) (ns.map PV.int)
 |[]=>.nil
 |n::ns=>(bQ.xg ns).cons .int
theorem Rep.bu{i:Int}(h:Rep K F v (.int i)):v=.int i:=by cases h;rfl
theorem Rep.lY{b:Bool}(h:Rep K F v (.bl b)):v=.bl b:=by cases h;rfl
theorem Rep.bG{z:Str}(h:Rep K F v (.str z)):v=.str z:=by cases h;rfl
theorem Rep.fK(h:Rep K F v .non):v=.non:=by cases h;rfl
theorem Rep.cD(h:Rep K F v (.tup l)):∃ a xs,v=.ref a/\SqT K F a xs/\bQ K F xs l:=by cases h with|tup h hl hr=>exact⟨_,_,rfl,SqT.of h,hl,hr⟩
theorem Rep.pP(h:Rep K F v (.tup l)):∃ a xs,v=.ref a/\F a=some (.tup xs)/\bQ K F xs l:=by cases h with|tup h hl hr=>exact⟨_,_,rfl,h,hl,hr⟩
theorem Rep.cF(h:Rep K F v (.lst l)):∃ a xs,v=.ref a/\SqL K F a xs/\bQ K F xs l:=by cases h with|lst h hl hr=>exact⟨_,_,rfl,h,hl,hr⟩
end
structure Cf where
 io:Addr->Prop
 nw:Prop
 H0:Hp
 F0:Hp
 E:XK
inductive Sl where
 |sh (p:PV)|ow (p:PV)|dp (p:PV)
noncomputable abbrev Rho:=List (Option Sl)
def Own(K:Frag)(F H:Hp)(a:Addr):PV->Prop
 |.lst l=>∃ xs,H a=some (.lst xs)/\bQ K F xs l
 |.dk l=>∃ xs,H a=some (.dK xs)/\xs.map (·.1)=l.map (·.1)/\∀ (j:Nat) x p,xs[j]?=some x->l[j]?=some p->Rep K F x.2 p.2
 |.dt l=>∃ xs,H a=some (.dT xs)/\xs.map (·.1)=l.map (·.1)/\∀ (j:Nat) x p,xs[j]?=some x->l[j]?=some p->Rep K F x.2 p.2
 |_=>False
inductive Dp(K:Frag)(F H:Hp):(Addr->Prop)->V->PV->Prop
 |fr {P:Addr->Prop}{v:V}{p:PV} (h:Rep K F v p) (st:p.still=true):Dp K F H P v p
 |lst {P:Addr->Prop}{S:Nat->Addr->Prop}{a:Addr}{xs:List V}{l:List PV} (h:H a=some (.lst xs)) (hp:P a) (hs:∀ j b,S j b->P b/\b≠a) (dj:∀ i j b,S i b->S j b->i=j) (hl:xs.length=l.length)
   (hr:∀ (j:Nat) x p,xs[j]?=some x->l[j]?=some p->Dp K F H (S j) x p):Dp K F H P (.ref a) (.lst l)
 |tup {P:Addr->Prop}{S:Nat->Addr->Prop}{a:Addr}{xs:List V}{l:List PV} (h:H a=some (.tup xs)) (hs:∀ j b,S j b->P b) (dj:∀ i j b,S i b->S j b->i=j) (hl:xs.length=l.length)
   (hr:∀ (j:Nat) x p,xs[j]?=some x->l[j]?=some p->Dp K F H (S j) x p):Dp K F H P (.ref a) (.tup l)
 |dk {P:Addr->Prop}{S:Nat->Addr->Prop}{a:Addr}{xs:List (Key×V)}{l:List (Key×PV)} (h:H a=some (.dK xs)) (hp:P a) (hs:∀ j b,S j b->P b/\b≠a) (dj:∀ i j b,S i b->S j b->i=j) (hl:xs.map (·.1)=l.map (·.1))
   (hr:∀ (j:Nat) x p,xs[j]?=some x->l[j]?=some p->Dp K F H (S j) x.2 p.2):Dp K F H P (.ref a) (.dk l)
 |dt {P:Addr->Prop}{S:Nat->Addr->Prop}{a:Addr}{xs:List (List Key×V)}{l:List (List Key×PV)} (h:H a=some (.dT xs)) (hp:P a) (hs:∀ j b,S j b->P b/\b≠a) (dj:∀ i j b,S i b->S j b->i=j) (hl:xs.map (·.1)=l.map (·.1))
   (hr:∀ (j:Nat) x p,xs[j]?=some x->l[j]?=some p->Dp K F H (S j) x.2 p.2):Dp K F H P (.ref a) (.dt l)
section
variable{K:Frag}{F F' H H':Hp}{v:V}{p:PV}{P P':Addr->Prop}
theorem Dp.mono(h:Dp K F H P v p)(m:∀ b,P b->P' b):Dp K F H P' v p:=by
 cases h with
 |fr h st=>exact .fr h st
 |lst h hp hs dj hl hr=>exact .lst h (m _ hp) (λj b q=>⟨m _ (hs j b q).1,(hs j b q).2⟩) dj hl hr
 |tup h hs dj hl hr=>exact .tup h (λj b q=>m _ (hs j b q)) dj hl hr
 |dk h hp hs dj hl hr=>exact .dk h (m _ hp) (λj b q=>⟨m _ (hs j b q).1,(hs j b q).2⟩) dj hl hr
 |dt h hp hs dj hl hr=>exact .dt h (m _ hp) (λj b q=>⟨m _ (hs j b q).1,(hs j b q).2⟩) dj hl hr
theorem Dp.up(h:Dp K F H P v p)(sf:aR F F')(sh:∀ b o,P b->H b=some o->H' b=some o)(ht:∀ b ys,H b=some (.tup ys)->H' b=some (.tup ys)):Dp K F' H' P v p:=by
 induction h with
 |fr h st=>exact .fr (h.up sf) st
 |lst h hp hs dj hl _ ih=>exact .lst (sh _ _ hp h) hp hs dj hl λj x p e1 e2=>ih j x p e1 e2 λb o q=>sh b o (hs j b q).1
 |tup h hs dj hl _ ih=>exact .tup (ht _ _ h) hs dj hl λj x p e1 e2=>ih j x p e1 e2 λb o q=>sh b o (hs j b q)
 |dk h hp hs dj hl _ ih=>exact .dk (sh _ _ hp h) hp hs dj hl λj x p e1 e2=>ih j x p e1 e2 λb o q=>sh b o (hs j b q).1
 |dt h hp hs dj hl _ ih=>exact .dt (sh _ _ hp h) hp hs dj hl λj x p e1 e2=>ih j x p e1 e2 λb o q=>sh b o (hs j b q).1
theorem Dp.seen(h:Dp K F H P v p)(sf:aR F F')(sh:∀ b o,P b->H b=some o->F' b=some o)(ht:∀ b ys,H b=some (.tup ys)->F' b=some (.tup ys)):Rep K F' v p:=by
 induction h with
 |fr h st=>exact h.up sf
 |lst h hp hs dj hl _ ih=>exact .lst (SqL.of (sh _ _ hp h)) hl λj x p e1 e2=>ih j x p e1 e2 λb o q=>sh b o (hs j b q).1
 |tup h hs dj hl _ ih=>exact .tup (ht _ _ h) hl λj x p e1 e2=>ih j x p e1 e2 λb o q=>sh b o (hs j b q)
 |dk h hp hs dj hl _ ih=>exact .dk (.inl (sh _ _ hp h)) hl λj x p e1 e2=>ih j x p e1 e2 λb o q=>sh b o (hs j b q).1
 |dt h hp hs dj hl _ ih=>exact .dt (.inl (sh _ _ hp h)) hl λj x p e1 e2=>ih j x p e1 e2 λb o q=>sh b o (hs j b q).1
end
structure RD(K:Frag)(C:Cf)(F H:Hp)(σ:St)(ρ:Rho)(P:Nat->Addr->Prop):Prop where
 own:∀ i b,P i b->F b=none/\(∃ o,H b=some o/\∀ ys,o≠.tup ys)/\C.nw/\C.H0 b=none
 dis:∀ i j b,P i b->P j b->i=j
 ow:∀ (i j:Nat) q b,P i b->ρ[j]?=some (some (.ow q))->σ[j]?≠some (some (.ref b))
 dp:∀ (i:Nat) p,ρ[i]?=some (some (.dp p))->∃ v,σ[i]?=some (some v)/\Dp K F H (P i) v p
theorem RD.no{K:Frag}{C:Cf}{F H:Hp}{σ:St}{ρ:Rho}(h:∀ (i:Nat) p,ρ[i]?≠some (some (.dp p))):RD K C F H σ ρ (λ_ _=>False):=
 ⟨λ_ _ q=>q.elim,λ_ _ _ q=>q.elim,λ_ _ _ _ q=>q.elim,λi p e=>absurd e (h i p)⟩
def Frz(H:Hp)(b:Addr)(o:HO):Prop:=H b=none\/∃ ys,o=.tup ys
structure RB(C:Cf)(F H:Hp):Prop where
 sub:aR F H
 keep:∀ b o,C.H0 b=some o->¬C.io b->H b=some o
 new:∀ b o,F b=some o->C.F0 b=some o\/Frz C.H0 b o
 ios:∀ b,C.io b->H b≠none/\C.H0 b≠none
structure RE(K:Frag)(C:Cf)(F H:Hp)(σ:St)(ρ:Rho):Prop where
 rb:RB C F H
 len:σ.length=ρ.length
 sh:∀ (i:Nat) p,ρ[i]?=some (some (.sh p))->∃ v,σ[i]?=some (some v)/\Rep K F v p
 ow:∀ (i:Nat) p,ρ[i]?=some (some (.ow p))->∃ a,σ[i]?=some (some (.ref a))/\Own K F H a p/\F a=none/\(C.io a\/(C.nw/\C.H0 a=none))
 dis:∀ (i j:Nat) p q a,ρ[i]?=some (some (.ow p))->ρ[j]?=some (some (.ow q))->σ[i]?=some (some (.ref a))->σ[j]?=some (some (.ref a))->i=j
 dd:∃ P,RD K C F H σ ρ P
structure Up(F H F' H':Hp):Prop where
 ff:aR F F'
 hh:aR H H'
 fr:∀ b o,F' b=some o->F b=some o\/Frz H b o
 fh:aR F' H'
section
variable{K:Frag}{C:Cf}{F F1 F2 F' H H1 H2 H':Hp}{σ:St}{ρ:Rho}{a:Addr}{p:PV}{v:V}
theorem Up.refl(s:aR F H):Up F H F H:=⟨aR.refl _,aR.refl _,λ_ _ h=>.inl h,s⟩
theorem Up.trans(a:Up F H F1 H1)(b:Up F1 H1 F2 H2):Up F H F2 H2:=
 ⟨a.ff.trans b.ff,a.hh.trans b.hh,λc o h=>(b.fr c o h).elim (a.fr c o) λn=>.inr (n.imp (λn=>a.hh.free n) id),b.fh⟩
theorem Own.ne(h:Own K F H a p):∃ o,H a=some o:=by
 cases p with
 |lst l=>obtain⟨xs,e,_⟩:=h;exact⟨_,e⟩
 |dk l=>obtain⟨xs,e,_⟩:=h;exact⟨_,e⟩
 |dt l=>obtain⟨xs,e,_⟩:=h;exact⟨_,e⟩
 |_=>exact h.elim
theorem Own.Ek{ys:List V}(h:Own K F H a p)(e:H a=some (.tup ys)):False:=by
 cases p with
 |lst l=>obtain⟨xs,e',_⟩:=h;rw[e] at e';cases e'
 |dk l=>obtain⟨xs,e',_⟩:=h;rw[e] at e';cases e'
 |dt l=>obtain⟨xs,e',_⟩:=h;rw[e] at e';cases e'
 |_=>exact h.elim
theorem RD.up{P:Nat->Addr->Prop}(d:RD K C F H σ ρ P)(u:Up F H F' H'):RD K C F' H' σ ρ P where
 own:=λi b q=>by
  obtain⟨a1,⟨o',a2,a3⟩,a4⟩:=d.own i b q;refine⟨?_,⟨o',u.hh _ _ a2,a3⟩,a4⟩;cases e:F' b with
  |none=>rfl
  |some o=>
   rcases u.fr b o e with z|z|⟨ys,z⟩
   ·rw[a1] at z;cases z
   ·rw[a2] at z;cases z
   ·subst z;have w:=u.fh _ _ e;rw[u.hh _ _ a2] at w;cases w;exact absurd rfl (a3 ys)
 dis:=d.dis
 ow:=d.ow
 dp:=λi p e=>let⟨v,e1,e2⟩:=d.dp i p e;⟨v,e1,e2.up u.ff (λb o _ q=>u.hh b o q) λb ys q=>u.hh b _ q⟩
theorem Own.up(h:Own K F H a p)(sf:aR F F')(sh:∀ o,H a=some o->H' a=some o):Own K F' H' a p:=by
 cases p with
 |lst l=>obtain⟨xs,e,r⟩:=h;exact⟨xs,sh _ e,r.up sf⟩
 |dk l=>obtain⟨xs,e,r,q⟩:=h;exact⟨xs,sh _ e,r,λj x p a b=>(q j x p a b).up sf⟩
 |dt l=>obtain⟨xs,e,r,q⟩:=h;exact⟨xs,sh _ e,r,λj x p a b=>(q j x p a b).up sf⟩
 |_=>exact h.elim
theorem Own.frozen(h:Own K F H a p)(hn:F a=none):∃ o,H a=some o/\Rep K (upd F a o) (.ref a) p:=by
 have s:∀ o,aR F (upd F a o):=λo=>eG hn;cases p with
 |lst l=>obtain⟨xs,e,r⟩:=h;exact⟨_,e,.lst (SqL.of aK) r.1 (r.up (s _)).2⟩
 |dk l=>obtain⟨xs,e,r,q⟩:=h;exact⟨_,e,.dk (.inl aK) r λj x p a b=>(q j x p a b).up (s _)⟩
 |dt l=>obtain⟨xs,e,r,q⟩:=h;exact⟨_,e,.dt (.inl aK) r λj x p a b=>(q j x p a b).up (s _)⟩
 |_=>exact h.elim
theorem Own.lent(h:Own K F H a p)(s:aR F H):Rep K H (.ref a) p:=by
 cases p with
 |lst l=>obtain⟨xs,e,r⟩:=h;exact .lst (SqL.of e) r.1 (r.up s).2
 |dk l=>obtain⟨xs,e,r,q⟩:=h;exact .dk (.inl e) r λj x p a b=>(q j x p a b).up s
 |dt l=>obtain⟨xs,e,r,q⟩:=h;exact .dt (.inl e) r λj x p a b=>(q j x p a b).up s
 |_=>exact h.elim
theorem RB.up(h:RB C F H)(u:Up F H F' H'):RB C F' H' where
 sub:=u.fh
 keep:=λb o e n=>u.hh _ _ (h.keep b o e n)
 new:=λb o e=>(u.fr b o e).elim (h.new b o) λn=>.inr (n.imp (λn=>by
  cases q:C.H0 b with
  |none=>rfl
  |some o'=>
   by_cases hi:C.io b
   ·exact absurd n (h.ios b hi).1
   ·rw[h.keep b o' q hi] at n;cases n) id)
 ios:=λb hb=>⟨λn=>(h.ios b hb).1 (u.hh.free n),(h.ios b hb).2⟩
theorem RB.um(h:RB C F H){b:Addr}(n:H b=none):C.H0 b=none:=by
 cases q:C.H0 b with
 |none=>rfl
 |some o'=>
  by_cases hi:C.io b
  ·exact absurd n (h.ios b hi).1
  ·rw[h.keep b o' q hi] at n;cases n
theorem RE.up(h:RE K C F H σ ρ)(u:Up F H F' H'):RE K C F' H' σ ρ where
 rb:=h.rb.up u
 len:=h.len
 sh:=λi p e=>let⟨v,e1,e2⟩:=h.sh i p e;⟨v,e1,e2.up u.ff⟩
 ow:=λi p e=>by
  obtain⟨a,e1,e2,e3,e4⟩:=h.ow i p e;refine⟨a,e1,e2.up u.ff λo q=>u.hh _ _ q,?_,e4⟩;cases q:F' a with
  |none=>rfl
  |some o=>
   obtain⟨o',eo⟩:=e2.ne;rcases u.fr a o q with z|z|⟨ys,z⟩
   ·rw[e3] at z;cases z
   ·rw[eo] at z;cases z
   ·subst z;exact absurd (u.fh _ _ q) (λw=>by rw[u.hh _ _ eo] at w;cases w;exact e2.Ek eo)
 dis:=h.dis
 dd:=let⟨P,d⟩:=h.dd;⟨P,d.up u⟩
theorem get_set{α:Type}{l:List α}{i j:Nat}{x y:α}(h:(l.set i x)[j]?=some y):(i=j/\x=y)\/(i≠j/\l[j]?=some y):=by
 rw[List.getElem?_set] at h;by_cases e:i=j
 ·subst e;rw[Zah rfl] at h;split at h
  ·exact .inl ⟨rfl,Zad h⟩
  ·cases h
 ·rw[Zai e] at h;exact .inr ⟨e,h⟩
theorem cH{α:Type}{l:List α}{j:Nat}{y:α}(h:l[j]?=some y):j<l.length:=(Zay.mp h).1
theorem RE.set(h:RE K C F H σ ρ)(i:Nat)(r:Rep K F v p):RE K C F H (σ.set i (some v)) (ρ.set i (some (.sh p))) where
 rb:=h.rb
 len:=by simp[h.len]
 sh:=λj q e=>by
  rcases get_set e with⟨e1,e2⟩|⟨e1,e2⟩
  ·subst e1;cases e2;have:=cH e;exact⟨v,by rw[Za4 (by rw[h.len];simpa using this)],r⟩
  ·obtain⟨w,e3,e4⟩:=h.sh j q e2;exact⟨w,by rw[Zas e1];exact e3,e4⟩
 ow:=λj q e=>by
  rcases get_set e with⟨e1,e2⟩|⟨e1,e2⟩
  ·cases e2
  ·obtain⟨w,e3,e4⟩:=h.ow j q e2;exact⟨w,by rw[Zas e1];exact e3,e4⟩
 dis:=λj k q q' a e e' f f'=>by
  rcases get_set e with⟨e1,e2⟩|⟨e1,e2⟩
  ·cases e2
  ·rcases get_set e' with⟨e1',e2'⟩|⟨e1',e2'⟩
   ·cases e2'
   ·rw[Zas e1] at f;rw[Zas e1'] at f';exact h.dis j k q q' a e2 e2' f f'
 dd:=let⟨P,d⟩:=h.dd;⟨P,d.own,d.dis,λj k q b z e f=>by
   rcases get_set e with⟨e1,e2⟩|⟨e1,e2⟩
   ·cases e2
   ·rw[Zas e1] at f;exact d.ow j k q b z e2 f,λj q e=>by
   rcases get_set e with⟨e1,e2⟩|⟨e1,e2⟩
   ·cases e2
   ·obtain⟨w,e3,e4⟩:=d.dp j q e2;exact⟨w,by rw[Zas e1];exact e3,e4⟩⟩
theorem RE.Te(h:RE K C F H σ ρ)(i:Nat)(r:Own K F H a p)(hn:F a=none)(nw:C.nw)(h0:C.H0 a=none)(ha:∀ (j:Nat) q,ρ[j]?=some (some (.ow q))->j≠i->σ[j]?≠some (some (.ref a)))(hd:∃ P,RD K C F H σ ρ P/\∀ j,¬P j a) :
  RE K C F H (σ.set i (some (.ref a))) (ρ.set i (some (.ow p))) where
 rb:=h.rb
 len:=by simp[h.len]
 sh:=λj q e=>by
  rcases get_set e with⟨e1,e2⟩|⟨e1,e2⟩
  ·cases e2
  ·obtain⟨w,e3,e4⟩:=h.sh j q e2;exact⟨w,by rw[Zas e1];exact e3,e4⟩
 ow:=λj q e=>by
  rcases get_set e with⟨e1,e2⟩|⟨e1,e2⟩
  ·subst e1;cases e2;have:=cH e;exact⟨a,by rw[Za4 (by rw[h.len];simpa using this)],r,hn,.inr ⟨nw,h0⟩⟩
  ·obtain⟨w,e3,e4⟩:=h.ow j q e2;exact⟨w,by rw[Zas e1];exact e3,e4⟩
 dis:=λj k q q' b e e' f f'=>by
  rcases get_set e with⟨e1,e2⟩|⟨e1,e2⟩
  ·rcases get_set e' with⟨e1',e2'⟩|⟨e1',e2'⟩
   ·exact e1.symm.trans e1'
   ·subst e1;have:=cH e;rw[Za4 (by rw[h.len];simpa using this)] at f
    cases f;rw[Zas e1'] at f';exact absurd f' (ha k q' e2' (Zbp e1'))
  ·rcases get_set e' with⟨e1',e2'⟩|⟨e1',e2'⟩
   ·subst e1';have:=cH e';rw[Za4 (by rw[h.len];simpa using this)] at f'
    cases f';rw[Zas e1] at f;exact absurd f (ha j q e2 (Zbp e1))
   ·rw[Zas e1] at f;rw[Zas e1'] at f';exact h.dis j k q q' b e2 e2' f f'
 dd:=let⟨P,d,na⟩:=hd;⟨P,d.own,d.dis,λj k q b z e f=>by
   rcases get_set e with⟨e1,e2⟩|⟨e1,e2⟩
   ·subst e1;have:=cH e;rw[Za4 (by rw[h.len];simpa using this)] at f
    cases f;exact na j z
   ·rw[Zas e1] at f;exact d.ow j k q b z e2 f,λj q e=>by
   rcases get_set e with⟨e1,e2⟩|⟨e1,e2⟩
   ·cases e2
   ·obtain⟨w,e3,e4⟩:=d.dp j q e2;exact⟨w,by rw[Zas e1];exact e3,e4⟩⟩
theorem RE.Qi(h:RE K C F H σ ρ)(n:H a=none)(u:Up F H F' H'):∃ P,RD K C F' H' σ ρ P/\∀ j,¬P j a:=by
 obtain⟨P,d⟩:=h.dd;exact⟨P,d.up u,λj z=>by obtain⟨_,⟨o,e,_⟩,_⟩:=d.own j a z;rw[n] at e;cases e⟩
theorem RE.apart(h:RE K C F H σ ρ)(n:H a=none)(j:Nat)(q:PV)(e:ρ[j]?=some (some (.ow q))):σ[j]?≠some (some (.ref a)):=λf=>by
 obtain⟨b,e1,e2,_⟩:=h.ow j q e;rw[e1] at f;cases f;obtain⟨o,eo⟩:=e2.ne;rw[eo] at n;cases n
theorem RE.write(h:RE K C F H σ ρ){i:Nat}{o:HO}{p':PV}(e:ρ[i]?=some (some (.ow p)))(ea:σ[i]?=some (some (.ref a)))(r:Own K F (upd H a o) a p') :
  RE K C F (upd H a o) σ (ρ.set i (some (.ow p'))):=by
 obtain⟨a',e1,e2,e3,e4⟩:=h.ow i p e;rw[ea] at e1;cases e1;have ne:∀ b u,F b=some u->b≠a:=λb u q z=>by rw[z,e3] at q;cases q
 refine⟨⟨λb u q=>by rw[aq (ne b u q)];exact h.rb.sub b u q,λb u q n=>?_,h.rb.new,λb hb=>⟨?_,(h.rb.ios b hb).2⟩⟩,by simp[h.len],λj q f=>?_,λj q f=>?_,λj k q q' b f f' g g'=>?_,?_⟩
 ·have:b≠a:=λz=>by
   subst z;rcases e4 with z|z
   ·exact n z
   ·rw[z.2] at q;cases q
  rw[aq this];exact h.rb.keep b u q n
 ·by_cases hba:b=a
  ·subst hba;rw[aK];simp
  ·rw[aq hba];exact(h.rb.ios b hb).1
 ·rcases get_set f with⟨e1,f2⟩|⟨e1,f2⟩
  ·cases f2
  ·exact h.sh j q f2
 ·rcases get_set f with⟨e1,f2⟩|⟨e1,f2⟩
  ·subst e1;cases f2;exact⟨a,ea,r,e3,e4⟩
  ·obtain⟨b,g1,g2,g3,g4⟩:=h.ow j q f2;refine⟨b,g1,g2.up (aR.refl _) λu qq=>?_,g3,g4⟩;have:b≠a:=λz=>by subst z;exact e1 (h.dis i j p q b e f2 ea g1)
   rw[aq this];exact qq
 ·have key:∀ (j:Nat) q,(ρ.set i (some (Sl.ow p')))[j]?=some (some (.ow q))->∃ q0,ρ[j]?=some (some (.ow q0)):=λj q f=>by
   rcases get_set f with⟨e1,f2⟩|⟨e1,f2⟩
   ·subst e1;exact⟨p,e⟩
   ·exact⟨q,f2⟩
  obtain⟨q0,k0⟩:=key j q f;obtain⟨q1,k1⟩:=key k q' f';exact h.dis j k q0 q1 b k0 k1 g g'
 ·obtain⟨P,d⟩:=h.dd;have na:∀ j b,P j b->b≠a:=λj b z e'=>by subst e';exact d.ow j i p b z e ea
  refine⟨P,λj b z=>?_,d.dis,λj k q b z f g=>?_,λj q f=>?_⟩
  ·rw[aq (na j b z)];exact d.own j b z
  ·rcases get_set f with⟨f1,f2⟩|⟨f1,f2⟩
   ·subst f1;exact d.ow j i p b z e g
   ·exact d.ow j k q b z f2 g
  ·rcases get_set f with⟨f1,f2⟩|⟨f1,f2⟩
   ·cases f2
   ·obtain⟨w,e3,e5⟩:=d.dp j q f2;exact⟨w,e3,e5.up (aR.refl _) (λb o z q=>by rw[aq (na j b z)];exact q) λb ys q=>by rw[aq λz=>by subst z;exact e2.Ek q];exact q⟩
theorem RE.frz(h:RE K C F H σ ρ){i:Nat}(e:ρ[i]?=some (some (.ow p)))(hio:∀ a,σ[i]?=some (some (.ref a))->¬C.io a):∃ F',aR F F'/\RE K C F' H σ (ρ.set i (some (.sh p))):=by
 obtain⟨a,e1,e2,e3,e4⟩:=h.ow i p e;obtain⟨o,eo,r⟩:=e2.frozen e3;have h0:C.H0 a=none:=(e4.resolve_left (hio a e1)).2;have sf:aR F (upd F a o):=eG e3;have li:=cH e;refine⟨upd F a o,sf,⟨⟨λb u q=>?_,h.rb.keep,λb u q=>?_,h.rb.ios⟩,by simp[h.len],λj q f=>?_,λj q f=>?_,λj k q q' b f f' g g'=>?_,?_⟩⟩
 ·by_cases hb:b=a
  ·subst hb;rw[aK] at q;cases q;exact eo
  ·rw[aq hb] at q;exact h.rb.sub b u q
 ·by_cases hb:b=a
  ·subst hb;exact .inr (.inl h0)
  ·rw[aq hb] at q;exact h.rb.new b u q
 ·rcases get_set f with⟨f1,f2⟩|⟨f1,f2⟩
  ·subst f1;cases f2;exact⟨_,e1,r⟩
  ·obtain⟨v,g1,g2⟩:=h.sh j q f2;exact⟨v,g1,g2.up sf⟩
 ·rcases get_set f with⟨f1,f2⟩|⟨f1,f2⟩
  ·cases f2
  ·obtain⟨b,g1,g2,g3,g4⟩:=h.ow j q f2;refine⟨b,g1,g2.up sf λ_ z=>z,?_,g4⟩;have:b≠a:=λz=>by subst z;exact f1 (h.dis i j p q b e f2 e1 g1)
   rw[aq this];exact g3
 ·rcases get_set f with⟨f1,f2⟩|⟨f1,f2⟩
  ·cases f2
  ·rcases get_set f' with⟨f1',f2'⟩|⟨f1',f2'⟩
   ·cases f2'
   ·exact h.dis j k q q' b f2 f2' g g'
 ·obtain⟨P,d⟩:=h.dd;have na:∀ j b,P j b->b≠a:=λj b z e'=>by subst e';exact d.ow j i p b z e e1
  refine⟨P,λj b z=>?_,d.dis,λj k q b z f g=>?_,λj q f=>?_⟩
  ·rw[aq (na j b z)];exact d.own j b z
  ·rcases get_set f with⟨f1,f2⟩|⟨f1,f2⟩
   ·cases f2
   ·exact d.ow j k q b z f2 g
  ·rcases get_set f with⟨f1,f2⟩|⟨f1,f2⟩
   ·cases f2
   ·obtain⟨w,e3,e5⟩:=d.dp j q f2;exact⟨w,e3,e5.up sf (λ_ _ _ q=>q) λ_ _ q=>q⟩
end
structure Cg extends Cf where
 XR:Hp->Value->Option Addr->PV->Prop
def PX(C:Cg)(F:Hp)(z:PV):Prop:=∀ e d F' H',aR F F'->RB C.toCf F' H'->C.XR F' e d z->C.E e d H'
def Pr{α:Type}(C:Cg)(F:Hp)(ok:α->Prop):Res α->Prop
 |.ok a=>ok a
 |.ex z=>PX C F z
noncomputable abbrev Rel(α:Type):=Hp->Hp->V->α->Prop
def aF(K:Frag):Rel PV:=λF _ v p=>Rep K F v p
def aH(K:Frag):Rel PV:=λ_ H v p=>Rep K H v p
def aV(K:Frag):Rel (List PV):=λF H v l=>∃ a xs,v=.ref a/\SqL K H a xs/\bQ K F xs l
def UpM{α:Type}(A:Rel α):Prop:=∀ F H F' H' v a,Up F H F' H'->A F H v a->A F' H' v a
theorem aF.up{K:Frag}:UpM (aF K):=λ_ _ _ _ _ _ u h=>Rep.up h u.ff
theorem aH.up{K:Frag}:UpM (aH K):=λ_ _ _ _ _ _ u h=>Rep.up h u.hh
theorem aV.up{K:Frag}:UpM (aV K):=λ_ _ _ _ _ _ u h=>let⟨a,xs,e,s,r⟩:=h;⟨a,xs,e,u.hh.seq s,r.up u.ff⟩
noncomputable abbrev Fn(α:Type):=Rho->Option (Res α)
def MJ{α:Type}(K:Frag)(C:Cg)(A:Rel α)(te:TE)(f:Fn α):Prop:=
 ∀ F H σ ρ Q r,RE K C.toCf F H σ ρ->f ρ=some r->Pr C F (λa=>∀ v F' H',Up F H F' H'->A F' H' v a->Q v H') r->te σ H Q
def MT(K:Frag)(C:Cg)(tt:TT)(f:Fn Bool):Prop:=
 ∀ F H σ ρ Q r,RE K C.toCf F H σ ρ->f ρ=some r->Pr C F (λb=>∀ F' H',Up F H F' H'->Q b H') r->tt σ H Q
def MA(K:Frag)(C:Cg)(ta:TA)(f:Fn (List PV)):Prop:=
 ∀ F H σ ρ Q r,RE K C.toCf F H σ ρ->f ρ=some r->Pr C F (λl=>∀ xs F' H',Up F H F' H'->bQ K F' xs l->Q xs H') r->ta σ H Q
def MAL(K:Frag)(C:Cg)(ta:TA)(f:Fn (List PV)):Prop:=
 ∀ F H σ ρ Q r,RE K C.toCf F H σ ρ->f ρ=some r->Pr C F (λl=>∀ xs F' H',Up F H F' H'->bQ K H' xs l->Q xs H') r->ta σ H Q
def MO(K:Frag)(C:Cg)(te:TE)(f:Fn PV):Prop:=
 ∀ F H σ ρ Q r,RE K C.toCf F H σ ρ->f ρ=some r->Pr C F (λp=>∀ a F' H',Up F H F' H'->H a=none->F' a=none->Own K F' H' a p->Q (.ref a) H') r->te σ H Q
theorem b8{α β:Type}{x:Option (Res α)}{k:α->Option (Res β)}{r:Res β}(h:bnd x k=some r):(∃ z,x=some (.ex z)/\r=.ex z)\/∃ a,x=some (.ok a)/\k a=some r:=by
 match x,h with
 |some (.ok a),h=>exact .inr ⟨a,rfl,h⟩
 |some (.ex z),h=>exact .inl ⟨z,rfl,(Zad h).symm⟩
theorem PX.up{C:Cg}{F F1:Hp}{z:PV}(h:PX C F z)(s:aR F F1):PX C F1 z:=λe d F' H' a b c=>h e d F' H' (s.trans a) b c
theorem Pr.mono{α:Type}{C:Cg}{F F1:Hp}{ok ok':α->Prop}{r:Res α}(h:Pr C F ok r)(s:aR F F1)(k:∀ a,ok a->ok' a):Pr C F1 ok' r:=by
 cases r with
 |ok a=>exact k a h
 |ex z=>exact PX.up h s
section
variable{K:Frag}{C:Cg}{α β γ:Type}{A:Rel α}{B:Rel β}{D:Rel γ}{ta tb:TE}{f:Fn α}{g:Fn β}{F H:Hp}{σ:St}{ρ:Rho}{Q:VK}
theorem MJ.run{ok:β->Prop}{k:α->Option (Res β)}{r:Res β}(h:MJ K C A ta f)(R:RE K C.toCf F H σ ρ)(hb:bnd (f ρ) k=some r)(P:Pr C F ok r)
  (go:∀ p v F1 H1,k p=some r->Up F H F1 H1->A F1 H1 v p->Q v H1):ta σ H Q:=by
 rcases b8 hb with⟨z,e,rfl⟩|⟨p,e,hk⟩
 ·exact h F H σ ρ Q _ R e P
 ·exact h F H σ ρ Q _ R e λv F1 H1 u a=>go p v F1 H1 hk u a
theorem MA.run{t:TA}{f:Fn (List PV)}{Q:List V->Hp->Prop}{ok:β->Prop}{k:List PV->Option (Res β)}{r:Res β}(h:MA K C t f)(R:RE K C.toCf F H σ ρ)(hb:bnd (f ρ) k=some r)(P:Pr C F ok r)
  (go:∀ l xs F1 H1,k l=some r->Up F H F1 H1->bQ K F1 xs l->Q xs H1):t σ H Q:=by
 rcases b8 hb with⟨z,e,rfl⟩|⟨p,e,hk⟩
 ·exact h F H σ ρ Q _ R e P
 ·exact h F H σ ρ Q _ R e λxs F1 H1 u a=>go p xs F1 H1 hk u a
theorem Pr.later{D:Rel γ}{r:Res γ}{F1 H1:Hp}(P:Pr C F (λa=>∀ v F' H',Up F H F' H'->D F' H' v a->Q v H') r)(u:Up F H F1 H1):Pr C F1 (λa=>∀ v F' H',Up F1 H1 F' H'->D F' H' v a->Q v H') r:=
 P.mono u.ff λ_ h v F' H' u' d=>h v F' H' (u.trans u') d
theorem Pr.Cw{r:Res PV}{F1 H1:Hp}(P:Pr C F (λp=>∀ a F' H',Up F H F' H'->H a=none->F' a=none->Own K F' H' a p->Q (.ref a) H') r)(u:Up F H F1 H1) :
  Pr C F1 (λp=>∀ a F' H',Up F1 H1 F' H'->H1 a=none->F' a=none->Own K F' H' a p->Q (.ref a) H') r:=
 P.mono u.ff λ_ h a F' H' u' n1 n2 d=>h a F' H' (u.trans u') (u.hh.free n1) n2 d
theorem Pr.Qj{Q:List V->Hp->Prop}{r:Res (List PV)}{F1 H1:Hp}(P:Pr C F (λl=>∀ xs F' H',Up F H F' H'->bQ K F' xs l->Q xs H') r)(u:Up F H F1 H1):Pr C F1 (λl=>∀ xs F' H',Up F1 H1 F' H'->bQ K F' xs l->Q xs H') r:=
 P.mono u.ff λ_ h xs F' H' u' d=>h xs F' H' (u.trans u') d
def mV(i:Nat):Fn PV:=λρ=>match ρ[i]? with
 |some (some (.sh p))=>some (.ok p)
 |_=>none
theorem ak(i:Nat):MJ K C (aF K) (qT i) (mV i):=by
 intro F H σ ρ Q r R e P;unfold mV at e;split at e
 ·rename_i p hp;cases e;obtain⟨v,e1,e2⟩:=R.sh i p hp;exact⟨v,e1,P v F H (Up.refl R.rb.sub) e2⟩
 ·cases e
def mVL(i:Nat):Fn PV:=λρ=>match ρ[i]? with
 |some (some (.sh p))=>some (.ok p)
 |some (some (.ow p))=>some (.ok p)
 |_=>none
theorem eX(i:Nat):MJ K C (aH K) (qT i) (mVL i):=by
 intro F H σ ρ Q r R e P;unfold mVL at e;split at e
 ·rename_i p hp;cases e;obtain⟨v,e1,e2⟩:=R.sh i p hp;exact⟨v,e1,P v F H (Up.refl R.rb.sub) (e2.up R.rb.sub)⟩
 ·rename_i p hp;cases e;obtain⟨a,e1,e2,e3,_⟩:=R.ow i p hp;exact⟨_,e1,P _ F H (Up.refl R.rb.sub) (e2.lent R.rb.sub)⟩
 ·cases e
def rQ:PV->Option (Res (List PV))
 |.lst l=>some (.ok l)
 |_=>none
theorem Lz{f:Fn PV}(h:MJ K C (aF K) ta f):MJ K C (aV K) ta (λρ=>bnd (f ρ) rQ):=by
 intro F H σ ρ Q r R e P;refine h.run R e P λp v F1 H1 hk u a=>?_
 match p,hk with
 |.lst l,hk=>
  cases hk;obtain⟨b,xs,rfl,s,rr⟩:=Rep.cF a;exact P _ F1 H1 u ⟨b,xs,rfl,u.fh.seq s,rr⟩
theorem pQ(i:Nat):MJ K C (aV K) (qT i) (λρ=>bnd (mVL i ρ) rQ):=by
 intro F H σ ρ Q r R e P;rcases b8 e with⟨z,e1,rfl⟩|⟨p,e1,hk⟩
 ·unfold mVL at e1;split at e1<;>cases e1
 ·unfold mVL at e1
  match p,hk with
  |.lst l,hk=>
   cases hk;split at e1
   ·rename_i q hq;cases e1;obtain⟨v,e2,e3⟩:=R.sh i _ hq;obtain⟨b,xs,rfl,s,rr⟩:=Rep.cF e3;exact⟨_,e2,P _ F H (Up.refl R.rb.sub) ⟨b,xs,rfl,R.rb.sub.seq s,rr⟩⟩
   ·rename_i q hq;cases e1;obtain⟨a,e2,⟨xs,e3,rr⟩,_⟩:=R.ow i _ hq;exact⟨_,e2,P _ F H (Up.refl R.rb.sub) ⟨a,xs,rfl,SqL.of e3,rr⟩⟩
   ·cases e1
theorem fB{f:Fn PV}(h:MJ K C (aF K) ta f):MJ K C (aH K) ta f:=by
 intro F H σ ρ Q r R e P;refine h F H σ ρ Q r R e ?_;exact P.mono (aR.refl _) λ_ k v F' H' u d=>k v F' H' u (Rep.up d u.fh)
def mC(p:PV):Fn PV:=λ_=>some (.ok p)
theorem Qk{v:V}{p:PV}(h:∀ F,Rep K F v p):MJ K C (aF K) (tC v) (mC p):=by
 intro F H σ ρ Q r R e P;cases e;exact P v F H (Up.refl R.rb.sub) (h F)
theorem aG{i:Int}:MJ K C (aF K) (tC (.int i)) (mC (.int i)):=Qk λ_=>.int
theorem Ow{i:Bool}:MJ K C (aF K) (tC (.bl i)) (mC (.bl i)):=Qk λ_=>.bl
theorem q9{i:Str}:MJ K C (aF K) (tC (.str i)) (mC (.str i)):=Qk λ_=>.str
theorem iD{f:Fn PV}(h:MO K C ta f):MJ K C (aF K) ta f:=by
 intro F H σ ρ Q r R e P;refine h F H σ ρ Q r R e (P.mono (aR.refl _) λp k a F' H' u n1 n2 o=>?_);obtain⟨ob,eo,rr⟩:=o.frozen n2;refine k _ (upd F' a ob) H' ⟨u.ff.trans (eG n2),u.hh,λb x q=>?_,λb x q=>?_⟩ rr
 ·by_cases hb:b=a
  ·subst hb;exact .inr (.inl n1)
  ·rw[aq hb] at q;exact u.fr b x q
 ·by_cases hb:b=a
  ·subst hb;rw[aK] at q;cases q;exact eo
  ·rw[aq hb] at q;exact u.fh b x q
theorem jz{f:Fn PV}(h:MO K C ta f):MJ K C (aV K) ta (λρ=>bnd (f ρ) rQ):=Lz (iD h)
def m2{α β γ:Type}(op:α->β->Option (Res γ))(f:Fn α)(g:Fn β):Fn γ:=λρ=>bnd (f ρ) λa=>bnd (g ρ) λb=>op a b
def R2M(C:Cg)(A:Rel α)(B:Rel β)(D:Rel γ)(r:R2)(op:α->β->Option (Res γ)):Prop:=
 ∀ F H x y a b res Q,aR F H->A F H x a->B F H y b->op a b=some res->Pr C F (λc=>∀ v F' H',Up F H F' H'->D F' H' v c->Q v H') res->r x y H Q
theorem aB{op:α->β->Option (Res γ)}{r2:R2}(up:UpM A)(rule:R2M C A B D r2 op)(ha:MJ K C A ta f)(hb:MJ K C B tb g):MJ K C D (tOp r2 ta tb) (m2 op f g):=by
 intro F H σ ρ Q r R e P;refine ha.run R e P λp v F1 H1 hk u a=>?_;refine hb.run (R.up u) hk (P.later u) λq w F2 H2 hk2 u2 b=>?_;exact rule F2 H2 v w p q r Q u2.fh (up _ _ _ _ _ _ u2 a) b hk2 (P.later (u.trans u2))
def R2O(K:Frag)(C:Cg)(A:Rel α)(B:Rel β)(r:R2)(op:α->β->Option (Res PV)):Prop:=
 ∀ F H x y a b res Q,aR F H->A F H x a->B F H y b->op a b=some res->Pr C F (λp=>∀ a F' H',Up F H F' H'->H a=none->F' a=none->Own K F' H' a p->Q (.ref a) H') res->r x y H Q
theorem RJ{op:α->β->Option (Res PV)}{r2:R2}(up:UpM A)(rule:R2O K C A B r2 op)(ha:MJ K C A ta f)(hb:MJ K C B tb g):MO K C (tOp r2 ta tb) (m2 op f g):=by
 intro F H σ ρ Q r R e P;refine ha.run R e P λp v F1 H1 hk u a=>?_;refine hb.run (R.up u) hk (P.Cw u) λq w F2 H2 hk2 u2 b=>?_;exact rule F2 H2 v w p q r Q u2.fh (up _ _ _ _ _ _ u2 a) b hk2 (P.Cw (u.trans u2))
def m1{α γ:Type}(op:α->Option (Res γ))(f:Fn α):Fn γ:=λρ=>bnd (f ρ) op
def lQ:PV->Option (Res Bool)
 |.bl b=>some (.ok b)
 |_=>none
theorem dM{f:Fn PV}(ha:MJ K C (aF K) ta f):MT K C (Ol ta) (m1 lQ f):=by
 intro F H σ ρ Q r R e P;refine ha.run R e P λp v F1 H1 hk u a=>?_
 match p,hk with
 |.bl b,hk=>
  cases Rep.lY a;cases hk;exact⟨b,rfl,P F1 H1 u⟩
theorem Ql{f:Fn PV}(ha:MJ K C (aF K) ta f):MT K C (tB ta) (m1 lQ f):=dM ha
variable{d:TT}
def bA:Fn (List PV):=λ_=>some (.ok [])
def aJ(f:Fn PV)(g:Fn (List PV)):Fn (List PV):=λρ=>bnd (f ρ) λa=>bnd (g ρ) λl=>some (.ok (a::l))
theorem aN:MA K C yR bA:=λF H σ ρ Q r R e P=>by
 cases e;exact P [] F H (Up.refl R.rb.sub) .nil
theorem ao{f:Fn PV}{g:Fn (List PV)}{t:TA}(ha:MJ K C (aF K) ta f)(hb:MA K C t g):MA K C (ud ta t) (aJ f g):=by
 intro F H σ ρ Q r R e P;refine ha.run R e P λp v F1 H1 hk u a=>?_;refine hb.run (R.up u) hk (P.Qj u) λl xs F2 H2 hk2 u2 b=>?_;cases hk2;exact P _ F2 H2 (u.trans u2) (b.cons (Rep.up a u2.ff))
theorem Up.Hf{F H:Hp}{a:Addr}{o:HO}(s:aR F H)(h:H a=none):Up F H F (upd H a o):=⟨aR.refl _,eG h,λ_ _ q=>.inl q,s.trans (eG h)⟩
theorem Up.new{F H:Hp}{a:Addr}{o:HO}(s:aR F H)(h:H a=none):Up F H (upd F a o) (upd H a o):=by
 have hf:F a=none:=s.free h;refine⟨eG hf,eG h,λb u q=>?_,λb u q=>?_⟩
 ·by_cases hb:b=a
  ·subst hb;exact .inr (.inl h)
  ·rw[aq hb] at q;exact .inl q
 ·by_cases hb:b=a
  ·subst hb;rw[aK] at q ⊢;exact q
  ·rw[aq hb] at q ⊢;exact s b u q
def ju(f:Fn (List PV)):Fn PV:=λρ=>bnd (f ρ) λl=>if l.length<=sizeLine then some (.ok (.tup l)) else none
def zm(f:Fn (List PV)):Fn PV:=λρ=>bnd (f ρ) λl=>if l.length<=sizeLine then some (.ok (.lst l)) else none
theorem d8{t:TA}{f:Fn (List PV)}(h:MA K C t f):MJ K C (aF K) (Rt t) (ju f):=by
 intro F H σ ρ Q r R e P;refine h.run R e P λl xs F1 H1 hk u a=>?_;split at hk
 ·rename_i hl;cases hk;refine⟨by rw[a.1];exact hl,λp hp=>?_⟩
  have un:=Up.new (o:=.tup xs) u.fh hp;exact P _ _ _ (u.trans un) (.tup aK a.1 (a.up un.ff).2)
 ·cases hk
theorem uo{t:TA}{f:Fn (List PV)}(h:MA K C t f):MO K C (Qd t) (zm f):=by
 intro F H σ ρ Q r R e P;refine h.run R e P λl xs F1 H1 hk u a=>?_;split at hk
 ·rename_i hl;cases hk;refine⟨by rw[a.1];exact hl,λp hp=>?_⟩
  exact P _ _ _ (u.trans (Up.Hf u.fh hp)) (u.hh.free hp) (u.fh.free hp) ⟨xs,aK,a⟩
 ·cases hk
def spM(K:Frag)(XR:Hp->Value->Option Addr->PV->Prop)(m:List PV->Option (Res PV)):Sp:=λvs H Q E=>∃ ps F r,aR F H/\bQ K F vs ps/\m ps=some r/\match r with
 |.ok p=>∀ v F' H',Up F H F' H'->Rep K F' v p->Q v H'
 |.ex z=>∀ e d F' H',Up F H F' H'->XR F' e d z->E e d H'
def spO(K:Frag)(XR:Hp->Value->Option Addr->PV->Prop)(m:List PV->Option (Res PV)):Sp:=λvs H Q E=>∃ ps F r,aR F H/\bQ K F vs ps/\m ps=some r/\match r with
 |.ok p=>∀ a F' H',Up F H F' H'->H a=none->F' a=none->Own K F' H' a p->Q (.ref a) H'
 |.ex z=>∀ e d F' H',Up F H F' H'->XR F' e d z->E e d H'
def bI(m:List PV->Option (Res PV))(f:Fn (List PV)):Fn PV:=λρ=>bnd (f ρ) m
theorem bO{t:TA}{f:Fn (List PV)}{m:List PV->Option (Res PV)}(h:MA K C t f):MJ K C (aF K) (ue (spM K C.XR m) [] C.E t) (bI m f):=by
 intro F H σ ρ Q r R e P;refine h.run R e P λl xs F1 H1 hk u a=>?_;refine⟨l,F1,r,u.fh,by rw[ZaM];exact a,hk,?_⟩
 cases r with
 |ok p=>exact λv F' H' u' rv=>P v F' H' (u.trans u') rv
 |ex z=>exact λe d F' H' u' x=>P e d F' H' (u.trans u').ff (R.rb.up (u.trans u')) x
theorem sX{t:TA}{f:Fn (List PV)}{m:List PV->Option (Res PV)}(h:MA K C t f):MO K C (ue (spO K C.XR m) [] C.E t) (bI m f):=by
 intro F H σ ρ Q r R e P;refine h.run R e P λl xs F1 H1 hk u a=>?_;refine⟨l,F1,r,u.fh,by rw[ZaM];exact a,hk,?_⟩
 cases r with
 |ok p=>exact λv F' H' u' n1 n2 rv=>P v F' H' (u.trans u') (u.hh.free n1) n2 rv
 |ex z=>exact λe d F' H' u' x=>P e d F' H' (u.trans u').ff (R.rb.up (u.trans u')) x
end
inductive Out where
 |nx (ρ:Rho)|rt (p:PV)|ro (p:PV)|rd (p:PV)|bk (ρ:Rho)|ct (ρ:Rho)|ex (z:PV)
noncomputable abbrev Sn:=Rho->Option Out
def PO'(K:Frag)(C:Cg)(F:Hp)(D:Ends):Out->Prop
 |.nx ρ=>∀ F' H' σ,aR F F'->RE K C.toCf F' H' σ ρ->D.nx σ H'
 |.bk ρ=>∀ F' H' σ,aR F F'->RE K C.toCf F' H' σ ρ->D.bk σ H'
 |.ct ρ=>∀ F' H' σ,aR F F'->RE K C.toCf F' H' σ ρ->D.ct σ H'
 |.rt p=>∀ v F' H',aR F F'->RB C.toCf F' H'->Rep K F' v p->D.rt v H'
 |.ro p=>∀ a F' H',aR F F'->RB C.toCf F' H'->Own K F' H' a p->F' a=none->C.H0 a=none->D.rt (.ref a) H'
 |.rd p=>∀ v F' H' S,aR F F'->RB C.toCf F' H'->Dp K F' H' S v p->(∀ b,S b->F' b=none/\(∃ o,H' b=some o/\∀ ys,o≠.tup ys)/\C.H0 b=none)->D.rt v H'
 |.ex z=>PX C F z
def MS(K:Frag)(C:Cg)(t:TS)(f:Sn):Prop:=∀ F H σ ρ D o,RE K C.toCf F H σ ρ->f ρ=some o->PO' K C F D o->t D σ H
def kj{α:Type}(x:Option (Res α))(k:α->Option Out):Option Out:=match x with
 |some (.ok a)=>k a
 |some (.ex z)=>some (.ex z)
 |none=>none
theorem dR{α:Type}{x:Option (Res α)}{k:α->Option Out}{o:Out}(h:kj x k=some o):(∃ z,x=some (.ex z)/\o=.ex z)\/∃ a,x=some (.ok a)/\k a=some o:=by
 match x,h with
 |some (.ok a),h=>exact .inr ⟨a,rfl,h⟩
 |some (.ex z),h=>exact .inl ⟨z,rfl,(Zad h).symm⟩
section
variable{K:Frag}{C:Cg}{α:Type}{A:Rel α}{ta te:TE}{F H:Hp}{σ:St}{ρ:Rho}{D:Ends}{t u:TS}{f g:Sn}{o:Out}
theorem PO'.up{F1:Hp}(h:PO' K C F D o)(s:aR F F1):PO' K C F1 D o:=by
 cases o with
 |nx ρ=>exact λF' H' σ a=>h F' H' σ (s.trans a)
 |bk ρ=>exact λF' H' σ a=>h F' H' σ (s.trans a)
 |ct ρ=>exact λF' H' σ a=>h F' H' σ (s.trans a)
 |rt p=>exact λv F' H' a=>h v F' H' (s.trans a)
 |ro p=>exact λv F' H' a=>h v F' H' (s.trans a)
 |rd p=>exact λv F' H' S a=>h v F' H' S (s.trans a)
 |ex z=>exact PX.up h s
theorem MJ.xm{fe:Fn α}{Q:VK}{k:α->Option Out}(h:MJ K C A ta fe)(R:RE K C.toCf F H σ ρ)(hb:kj (fe ρ) k=some o)(P:PO' K C F D o)
  (go:∀ p v F1 H1,k p=some o->Up F H F1 H1->A F1 H1 v p->Q v H1):ta σ H Q:=by
 rcases dR hb with⟨z,e,rfl⟩|⟨p,e,hk⟩
 ·exact h F H σ ρ Q _ R e P
 ·exact h F H σ ρ Q _ R e λv F1 H1 u a=>go p v F1 H1 hk u a
theorem MO.xm{fe:Fn PV}{Q:VK}{k:PV->Option Out}(h:MO K C ta fe)(R:RE K C.toCf F H σ ρ)(hb:kj (fe ρ) k=some o)(P:PO' K C F D o)
  (go:∀ p a F1 H1,k p=some o->Up F H F1 H1->H a=none->F1 a=none->Own K F1 H1 a p->Q (.ref a) H1):ta σ H Q:=by
 rcases dR hb with⟨z,e,rfl⟩|⟨p,e,hk⟩
 ·exact h F H σ ρ Q _ R e P
 ·exact h F H σ ρ Q _ R e λa F1 H1 u n1 n2 w=>go p a F1 H1 hk u n1 n2 w
theorem MT.xm{tt:TT}{fe:Fn Bool}{Q:Bool->Hp->Prop}{k:Bool->Option Out}(h:MT K C tt fe)(R:RE K C.toCf F H σ ρ)(hb:kj (fe ρ) k=some o)(P:PO' K C F D o)
  (go:∀ b F1 H1,k b=some o->Up F H F1 H1->Q b H1):tt σ H Q:=by
 rcases dR hb with⟨z,e,rfl⟩|⟨p,e,hk⟩
 ·exact h F H σ ρ Q _ R e P
 ·exact h F H σ ρ Q _ R e λF1 H1 u=>go p F1 H1 hk u
def jR:Sn:=λρ=>some (.nx ρ)
def bU(f g:Sn):Sn:=λρ=>match f ρ with
 |some (.nx ρ')=>g ρ'
 |x=>x
theorem fX:MS K C Oe jR:=λF H σ ρ D o R e P=>by
 cases e;exact P F H σ (aR.refl _) R
theorem aX(h1:MS K C t f)(h2:MS K C u g):MS K C (Rj t u) (bU f g):=by
 intro F H σ ρ D o R e P;unfold bU at e;split at e
 ·rename_i ρ' h;refine h1 F H σ ρ _ _ R h ?_;exact λF' H' σ' s R'=>h2 F' H' σ' ρ' D o R' e (P.up s)
 ·rename_i x hx;cases o with
  |nx ρ'=>exact absurd e (hx ρ')
  |bk ρ=>exact h1 F H σ _ _ _ R e P
  |ct ρ=>exact h1 F H σ _ _ _ R e P
  |rt p=>exact h1 F H σ _ _ _ R e P
  |ro p=>exact h1 F H σ _ _ _ R e P
  |rd p=>exact h1 F H σ _ _ _ R e P
  |ex z=>exact h1 F H σ _ _ _ R e P
def MG(K:Frag)(C:Cg)(g:TG)(tg:PV->Rho->Option Rho):Prop:=
 ∀ F H σ ρ v p ρ' Q,RE K C.toCf F H σ ρ->Rep K F v p->tg p ρ=some ρ'->(∀ σ',RE K C.toCf F H σ' ρ'->Q σ' H)->g v σ H Q
def MGs(K:Frag)(C:Cg)(g:TGs)(tg:List PV->Rho->Option Rho):Prop:=
 ∀ F H σ ρ vs ps ρ' Q,RE K C.toCf F H σ ρ->bQ K F vs ps->tg ps ρ=some ρ'->(∀ σ',RE K C.toCf F H σ' ρ'->Q σ' H)->g vs σ H Q
def gN(i:Nat):PV->Rho->Option Rho:=λp ρ=>some (ρ.set i (some (.sh p)))
theorem aL(i:Nat):MG K C (t7 i) (gN i):=λF H σ ρ v p ρ' Q R r e k=>by
 cases e;exact k _ (R.set i r)
def gsNil:List PV->Rho->Option Rho
 |[],ρ=>some ρ
 |_::_,_=>none
def gsCons(t:PV->Rho->Option Rho)(u:List PV->Rho->Option Rho):List PV->Rho->Option Rho
 |[],_=>none
 |p::l,ρ=>match t p ρ with
  |some ρ'=>u l ρ'
  |none=>none
theorem jA:MGs K C Ro gsNil:=λF H σ ρ vs ps ρ' Q R r e k=>by
 cases ps with
 |nil=>cases e;exact⟨r.jy,k σ R⟩
 |cons p l=>cases e
theorem cQ{g:TG}{gs:TGs}{tg:PV->Rho->Option Rho}{tgs:List PV->Rho->Option Rho}(h:MG K C g tg)(hs:MGs K C gs tgs):MGs K C (Og g gs) (gsCons tg tgs):=λF H σ ρ vs ps ρ' Q R r e k=>by
 cases ps with
 |nil=>cases e
 |cons p l=>
  obtain⟨v,ys,rfl,r1,r2⟩:=r.eN;have e':(match tg p ρ with
   |some ρ'=>tgs l ρ'
   |none=>none)=some ρ':=e
  split at e'
  ·rename_i ρ1 h1;exact⟨v,ys,rfl,h F H σ ρ v p ρ1 _ R r1 h1 λσ' R'=>hs F H σ' ρ1 ys l ρ' Q R' r2 e' k⟩
  ·cases e'
def gT(n:Nat)(t:List PV->Rho->Option Rho):PV->Rho->Option Rho:=λp ρ=>match p with
 |.tup l=>if l.length=n then t l ρ else none
 |_=>none
theorem lZ{n:Nat}{gs:TGs}{tgs:List PV->Rho->Option Rho}(hs:MGs K C gs tgs):MG K C (PB K n gs) (gT n tgs):=λF H σ ρ v p ρ' Q R r e k=>by
 unfold gT at e;split at e
 ·rename_i l;split at e
  ·rename_i hn;obtain⟨a,xs,rfl,hq,rr⟩:=r.cD;exact⟨a,xs,rfl,R.rb.sub.tup hq,by rw[rr.1];exact hn,hs F H σ ρ xs l ρ' Q R rr e k⟩
  ·cases e
 ·cases e
def du(fe:Fn PV)(tg:PV->Rho->Option Rho):Sn:=λρ=>kj (fe ρ) λp=>match tg p ρ with
 |some ρ'=>some (.nx ρ')
 |none=>none
theorem bC{fe:Fn PV}{gt:TG}{tg:PV->Rho->Option Rho}(h:MJ K C (aF K) te fe)(hg:MG K C gt tg):MS K C (GD te gt) (du fe tg):=by
 intro F H σ ρ D o R e P;refine h.xm R e P λp v F1 H1 hk u a=>?_;split at hk
 ·rename_i ρ' h1;cases hk;exact hg F1 H1 σ ρ v p ρ' _ (R.up u) a h1 λσ' R'=>P F1 H1 σ' u.ff R'
 ·cases hk
def wk(i:Nat)(fe:Fn PV):Sn:=λρ=>kj (fe ρ) λp=>some (.nx (ρ.set i (some (.ow p))))
theorem xn{i:Nat}{fe:Fn PV}(nw:C.nw)(h:MO K C te fe):MS K C (GD te (t7 i)) (wk i fe):=by
 intro F H σ ρ D o R e P;refine h.xm R e P λp a F1 H1 hk u n1 n2 w=>?_;cases hk;exact P F1 H1 _ u.ff ((R.up u).Te i w n2 nw (R.rb.um n1) (λj q hj _=>R.apart n1 j q hj) (R.Qi n1 u))
def gF(fe:Fn PV):Sn:=λρ=>kj (fe ρ) λp=>some (.rt p)
theorem cV{fe:Fn PV}(h:MJ K C (aF K) te fe):MS K C (GC te) (gF fe):=by
 intro F H σ ρ D o R e P;refine h.xm R e P λp v F1 H1 hk u a=>?_;cases hk;exact P v F1 H1 u.ff (R.rb.up u) a
def pR(fe:Fn PV):Sn:=λρ=>kj (fe ρ) λp=>some (.ro p)
theorem nJ{fe:Fn PV}(h:MO K C te fe):MS K C (GC te) (pR fe):=by
 intro F H σ ρ D o R e P;refine h.xm R e P λp a F1 H1 hk u n1 n2 w=>?_;cases hk;exact P a F1 H1 u.ff (R.rb.up u) w n2 (R.rb.um n1)
def ownAt(i:Nat)(ρ:Rho):Option PV:=match ρ[i]? with
 |some (some (.ow p))=>some p
 |_=>none
theorem fY{i:Nat}{p:PV}(h:ownAt i ρ=some p):ρ[i]?=some (some (.ow p)):=by
 unfold ownAt at h;split at h
 ·rename_i q hq;cases h;exact hq
 ·cases h
def rA(i:Nat):Sn:=λρ=>match ownAt i ρ with
 |some p=>some (.ro p)
 |none=>none
theorem Jp(i:Nat)(hio:∀ a,¬C.io a):MS K C (GC (qT i)) (rA i):=by
 intro F H σ ρ D o R e P;unfold rA at e;split at e
 ·rename_i p hp;cases e;obtain⟨a,e1,e2,e3,e4⟩:=R.ow i p (fY hp);exact⟨_,e1,P a F H (aR.refl _) R.rb e2 e3 (e4.resolve_left (hio a)).2⟩
 ·cases e
def Cy(i:Nat)(ρ:Rho):Rho:=match ownAt i ρ with
 |some p=>ρ.set i (some (.sh p))
 |none=>ρ
theorem Qm(i:Nat)(hio:∀ a,¬C.io a)(h:MS K C t f):MS K C t (λρ=>f (Cy i ρ)):=by
 intro F H σ ρ D o R e P;have e:f (Cy i ρ)=some o:=e;unfold Cy at e;cases hp:ownAt i ρ with
 |none=>rw[hp] at e;exact h F H σ ρ D o R e P
 |some p=>
  rw[hp] at e;obtain⟨F',s,R'⟩:=R.frz (fY hp) λa _=>hio a;exact h F' H σ _ D o R' e (P.up s)
def xq(i:Nat)(fe:Fn PV):Sn:=λρ=>match ownAt i ρ with
 |some (.lst l)=>kj (fe ρ) λp=>if l.length<sizeLine then some (.nx (ρ.set i (some (.ow (.lst (l++[p])))))) else none
 |_=>none
theorem xr{i:Nat}{fe:Fn PV}(h:MJ K C (aF K) te fe):MS K C (Ir (tBM K "list" wX (qT i) (ud te yR))) (xq i fe):=by
 intro F H σ ρ D o R e P;unfold xq at e;split at e
 ·rename_i l hl;obtain⟨a,g1,⟨xs,g2,g3⟩,g4,g5⟩:=R.ow i _ (fY hl);refine⟨_,g1,tyL g2,h.xm R e P λp v F1 H1 hk u w=>?_⟩;split at hk
  ·rename_i hlen;cases hk;obtain⟨a',k1,⟨ys,k2,k3⟩,k4,k5⟩:=(R.up u).ow i _ (fY hl);rw[g1] at k1;cases k1;refine⟨a,ys,v,rfl,rfl,k2,by rw[k3.1];exact hlen,?_⟩
   exact P F1 _ σ u.ff ((R.up u).write (fY hl) g1 ⟨_,aK,k3.snoc w⟩)
  ·cases hk
 ·cases e
def oY(fc:Fn Bool)(f g:Sn):Sn:=λρ=>kj (fc ρ) λb=>if b=true then f ρ else g ρ
theorem lH{c:TT}{fc:Fn Bool}(hc:MT K C c fc)(h1:MS K C t f)(h2:MS K C u g):MS K C (Rm c t u) (oY fc f g):=by
 intro F H σ ρ D o R e P;refine hc.xm R e P λb F1 H1 hk uu=>?_;cases b with
 |true=>rw[Zah rfl] at hk ⊢;exact h1 F1 H1 σ ρ D o (R.up uu) hk (P.up uu.ff)
 |false=>rw[Zai (by decide)] at hk ⊢;exact h2 F1 H1 σ ρ D o (R.up uu) hk (P.up uu.ff)
structure ItR(K:Frag)(J:It)(F:Hp)(l:List PV):Prop where
 stop:∀ F' H',aR F F'->aR F' H'->J.stop l.length H'
 go:∀ i F' H',i<l.length->aR F F'->aR F' H'->J.go i H'
 yld:∀ i F' H' x H'',i<l.length->aR F F'->aR F' H'->J.yld i H' x H''->∃ F'' p,Up F' H' F'' H''/\l[i]?=some p/\Rep K F'' x p
def MI(K:Frag)(C:Cg)(wi:TI)(f:Fn (List PV)):Prop:=
 ∀ F H σ ρ R' r,RE K C.toCf F H σ ρ->f ρ=some r->Pr C F (λl=>∀ J F' H',Up F H F' H'->ItR K J F' l->R' J H') r->wi σ H R'
def loop(tg:PV->Rho->Option Rho)(body:Sn):List PV->Rho->Option Out
 |[],ρ=>some (.nx ρ)
 |x::xs,ρ=>match tg x ρ with
  |none=>none
  |some ρ1=>match body ρ1 with
   |some (.nx ρ2)=>loop tg body xs ρ2
   |some (.ct ρ2)=>loop tg body xs ρ2
   |some (.bk ρ2)=>some (.nx ρ2)
   |x=>x
def lR(it:Fn (List PV))(tg:PV->Rho->Option Rho)(body:Sn):Sn:=λρ=>kj (it ρ) λl=>loop tg body l ρ
theorem wu{J:It}{gt:TG}{tg:PV->Rho->Option Rho}{l:List PV}(hg:MG K C gt tg)(hb:MS K C t f)(hJ:ItR K J F l)(R:RE K C.toCf F H σ ρ)(e:loop tg f l ρ=some o)(P:PO' K C F D o):Td J gt t D σ H:=by
 refine⟨λi m σ' H'=>∃ F' ρ',m=l.length-i/\i<=l.length/\aR F F'/\RE K C.toCf F' H' σ' ρ'/\loop tg f (l.drop i) ρ'=some o,⟨l.length,F,ρ,by simp,Zbb _,aR.refl _,R,by rw[Zbe];exact e⟩,?_⟩
 rintro i m σ' H' ⟨F',ρ',rfl,hi,s,R',e'⟩;by_cases hlt:i<l.length
 ·refine .inr ⟨hJ.go i F' H' hlt s R'.rb.sub,λσ2 H2=>∃ F2 ρ2,aR F F2/\RE K C.toCf F2 H2 σ2 ρ2/\loop tg f (l.drop (i+1)) ρ2=some o,λσ2 H2 ⟨F2,ρ2,s2,R2,e2⟩=>⟨l.length-(i+1),by omega,F2,ρ2,rfl,hlt,s2,R2,e2⟩,λx H'' y=>?_⟩
  obtain⟨F'',p,u,ep,rx⟩:=hJ.yld i F' H' x H'' hlt s R'.rb.sub y;have ed:l.drop i=p::l.drop (i+1):=by
   rw[ZaR hlt];rw[Zaa hlt] at ep;rw[Zad ep]
  rw[ed,loop] at e';split at e'
  ·cases e'
  ·rename_i ρ1 h1;refine hg F'' H'' σ' ρ' x p ρ1 _ (R'.up u) rx h1 λσ1 R1=>?_;have sF:aR F F'':=s.trans u.ff;split at e'
   ·rename_i ρ2 h2;exact hb F'' H'' σ1 ρ1 _ _ R1 h2 λF3 H3 σ3 s3 R3=>⟨F3,ρ2,sF.trans s3,R3,e'⟩
   ·rename_i ρ2 h2;exact hb F'' H'' σ1 ρ1 _ _ R1 h2 λF3 H3 σ3 s3 R3=>⟨F3,ρ2,sF.trans s3,R3,e'⟩
   ·rename_i ρ2 h2;cases e';exact hb F'' H'' σ1 ρ1 _ _ R1 h2 λF3 H3 σ3 s3 R3=>P F3 H3 σ3 (sF.trans s3) R3
   ·rename_i n1 n2 n3;cases o with
    |nx ρ2=>exact absurd e' (n1 ρ2)
    |ct ρ2=>exact absurd e' (n2 ρ2)
    |bk ρ2=>exact absurd e' (n3 ρ2)
    |rt p=>exact hb F'' H'' σ1 ρ1 _ _ R1 e' (PO'.up (D:=D) P sF)
    |ro p=>exact hb F'' H'' σ1 ρ1 _ _ R1 e' (PO'.up (D:=D) P sF)
    |rd p=>exact hb F'' H'' σ1 ρ1 _ _ R1 e' (PO'.up (D:=D) P sF)
    |ex z=>exact hb F'' H'' σ1 ρ1 _ _ R1 e' (PX.up P sF)
 ·have ei:i=l.length:=by omega
  subst ei;rw[List.drop_length] at e';cases e';exact .inl ⟨hJ.stop F' H' s R'.rb.sub,P F' H' σ' s R'⟩
theorem gG{wi:TI}{it:Fn (List PV)}{gt:TG}{tg:PV->Rho->Option Rho}(hi:MI K C wi it)(hg:MG K C gt tg)(hb:MS K C t f):MS K C (PJ wi gt t) (lR it tg f):=by
 intro F H σ ρ D o R e P;rcases dR e with⟨z,e1,rfl⟩|⟨l,e1,hk⟩
 ·exact hi F H σ ρ _ _ R e1 P
 ·exact hi F H σ ρ _ _ R e1 λJ F' H' u hJ=>wu hg hb hJ (R.up u) hk (P.up u.ff)
def pU(fc:Fn Bool)(body:Sn):Nat->Rho->Option Out
 |0,_=>none
 |n+1,ρ=>kj (fc ρ) λb=>if b=true then(match body ρ with
   |some (.nx ρ2)=>pU fc body n ρ2
   |some (.ct ρ2)=>pU fc body n ρ2
   |some (.bk ρ2)=>some (.nx ρ2)
   |x=>x) else some (.nx ρ)
theorem Jq{c:TT}{fc:Fn Bool}(n:Nat)(hc:MT K C c fc)(hb:MS K C t f):MS K C (Iz c t) (pU fc f n):=by
 intro F H σ ρ D o R e P;refine⟨λm σ' H'=>∃ F' ρ',aR F F'/\RE K C.toCf F' H' σ' ρ'/\pU fc f m ρ'=some o,⟨n,F,ρ,aR.refl _,R,e⟩,?_⟩;rintro m σ' H' ⟨F',ρ',s,R',e'⟩;cases m with
 |zero=>cases e'
 |succ m=>
  refine hc.xm R' e' (P.up s) λb F1 H1 hk u=>?_;have sF:aR F F1:=s.trans u.ff;have R1:=R'.up u;cases b with
  |false=>
   rw[Zai (by decide)] at hk ⊢
   cases hk;exact P F1 H1 σ' sF R1
  |true=>
   rw[Zah rfl] at hk ⊢;refine⟨λσ2 H2=>∃ F2 ρ2,aR F F2/\RE K C.toCf F2 H2 σ2 ρ2/\pU fc f m ρ2=some o,λσ2 H2 ⟨F2,ρ2,s2,R2,e2⟩=>⟨m,Nat.lt_succ_self _,F2,ρ2,s2,R2,e2⟩,?_⟩;split at hk
   ·rename_i ρ2 h2;exact hb F1 H1 σ' ρ' _ _ R1 h2 λF3 H3 σ3 s3 R3=>⟨F3,ρ2,sF.trans s3,R3,hk⟩
   ·rename_i ρ2 h2;exact hb F1 H1 σ' ρ' _ _ R1 h2 λF3 H3 σ3 s3 R3=>⟨F3,ρ2,sF.trans s3,R3,hk⟩
   ·rename_i ρ2 h2;cases hk;exact hb F1 H1 σ' ρ' _ _ R1 h2 λF3 H3 σ3 s3 R3=>P F3 H3 σ3 (sF.trans s3) R3
   ·rename_i n1 n2 n3;cases o with
    |nx ρ2=>exact absurd hk (n1 ρ2)
    |ct ρ2=>exact absurd hk (n2 ρ2)
    |bk ρ2=>exact absurd hk (n3 ρ2)
    |rt p=>exact hb F1 H1 σ' ρ' _ _ R1 hk (PO'.up (D:=D) P sF)
    |ro p=>exact hb F1 H1 σ' ρ' _ _ R1 hk (PO'.up (D:=D) P sF)
    |rd p=>exact hb F1 H1 σ' ρ' _ _ R1 hk (PO'.up (D:=D) P sF)
    |ex z=>exact hb F1 H1 σ' ρ' _ _ R1 hk (PX.up P sF)
end
def eqL(f:PV->PV->Option Bool):List PV->List PV->Option Bool
 |[],[]=>some true
 |[],_::_=>some false
 |_::_,[]=>some false
 |x::xs,y::ys=>match f x y,eqL f xs ys with
  |some a,some b=>some (a&&b)
  |_,_=>none
def eqF:Nat->PV->PV->Option Bool
 |_,.non,.non=>some true
 |_,.non,.bl _=>some false
 |_,.non,.int _=>some false
 |_,.non,.str _=>some false
 |_,.bl _,.non=>some false
 |_,.bl a,.bl b=>some (decide (a=b))
 |_,.bl _,.str _=>some false
 |_,.int _,.non=>some false
 |_,.int a,.int b=>some (decide (a=b))
 |_,.int _,.str _=>some false
 |_,.str _,.non=>some false
 |_,.str _,.bl _=>some false
 |_,.str _,.int _=>some false
 |_,.str a,.str b=>some (decide (a=b))
 |_,.non,.tup _=>some false
 |_,.tup _,.non=>some false
 |_,.non,.lst _=>some false
 |_,.lst _,.non=>some false
 |_,.int _,.tup _=>some false
 |_,.tup _,.int _=>some false
 |_,.str _,.tup _=>some false
 |_,.tup _,.str _=>some false
 |_,.int _,.lst _=>some false
 |_,.lst _,.int _=>some false
 |_,.str _,.lst _=>some false
 |_,.lst _,.str _=>some false
 |_,.lst _,.tup _=>some false
 |_,.tup _,.lst _=>some false
 |n+1,.tup l,.tup m=>eqL (eqF n) l m
 |n+1,.lst l,.lst m=>if l.length=m.length then eqL (eqF n) l m else some false
 |_,_,_=>none
theorem mj{f:PV->PV->Option Bool}(h:∀ p r,f p p=some r->r=true):∀ {l:List PV}{r:Bool},eqL f l l=some r->r=true
 |[],r,e=>by cases e;rfl
 |x::xs,r,e=>by
  rw[eqL] at e;split at e
  ·rename_i a b h1 h2;cases e;rw[h x a h1,mj h h2];rfl
  ·cases e
theorem zp:∀ (n:Nat) (p:PV) (r:Bool),eqF n p p=some r->r=true
 |n,p,r,e=>by
  induction n generalizing p r with
  |zero=>cases p<;>first|(cases (show some true=some r from e);rfl)|(cases (show some (decide _)=some r from e);exact Zaz rfl)|cases (show none=some r from e)
  |succ n ih=>
   cases p with
   |tup l=>exact mj ih e
   |lst l=>
    have e:(if l.length=l.length then eqL (eqF n) l l else some false)=some r:=e;rw[Zah rfl] at e;exact mj ih e
   |_=>first|(cases (show some true=some r from e);rfl)|(cases (show some (decide _)=some r from e);exact Zaz rfl)|cases (show none=some r from e)
theorem xu{f:PV->PV->Option Bool}:∀ {l m:List PV}{r:Bool},eqL f l m=some r->∃ e:Nat->Bool,(∀ (j:Nat) x y,l[j]?=some x->m[j]?=some y->f x y=some (e j))/\r=((List.range (min l.length m.length)).all e&&l.length==m.length)
 |[],[],r,h=>⟨λ_=>true,λj x y a=>by simp at a,by cases h;rfl⟩
 |[],_::_,r,h=>⟨λ_=>true,λj x y a=>by simp at a,by cases h;simp⟩
 |_::_,[],r,h=>⟨λ_=>true,λj x y _ a=>by simp at a,by cases h;simp⟩
 |x::xs,y::ys,r,h=>by
  rw[eqL] at h;split at h
  ·rename_i a b h1 h2;cases h;obtain⟨e,e1,e2⟩:=xu h2;refine⟨λj=>match j with|0=>a|j+1=>e j,λj x' y' a' b'=>?_,?_⟩
   ·cases j with
    |zero=>simp at a' b';subst a' b';exact h1
    |succ j=>exact e1 j x' y' (by simpa using a') (by simpa using b')
   ·rw[e2,ZaK,ZaK,Nat.succ_min_succ,List.range_succ_eq_map,List.all_cons,List.all_map];have:((xs.length+1==ys.length+1):Bool)=(xs.length==ys.length):=by
     rw[Bool.eq_iff_iff];simp
    rw[this];cases a<;>simp[Function.comp_def]
  ·cases h
section
variable{X:Cx}{pins:List (Addr×Obj)}{σ:St}{H:Hp}{s:Shared}
theorem Rep.kinds(I:Inv X pins σ H s){a:Addr}{xs ys:List V}(h1:SqL X.K H a xs)(h2:SqT X.K H a ys):False:=by
 obtain⟨_,_,p1,_⟩:=I.list h1;obtain⟨_,_,p2,_⟩:=I.tuple h2;obtain⟨o,n,e,c,_⟩:=p1;obtain⟨o',e',c',_⟩:=p2;rw[e] at e';cases e';rw[c] at c';exact absurd c' (by decide)
theorem zq{xs:List V}{l m:List PV}(h1:xs.length=l.length)(h2:xs.length=m.length)(h:∀ (j:Nat) x p q,xs[j]?=some x->l[j]?=some p->m[j]?=some q->p=q):l=m:=by
 apply Zbs
 intro j;by_cases hj:j<xs.length
 ·have hl:j<l.length:=by lia
  have hm:j<m.length:=by lia
  rw[Zaa hl,Zaa hm,h j xs[j] l[j] m[j] (by simp[hj]) (by simp[hl]) (by simp[hm])]
 ·rw[ZaH (by lia),ZaH (by lia)]
def HO.isDict:HO->Bool
 |.dK _=>true
 |.dT _=>true
 |_=>false
theorem LC{H:Hp}{a:Addr}{u v:HO}(hu:HO.isDict u=true)(hv:HO.isDict v=true)(h:Rd H a u)(h':Rd H a v):u=v:=by
 rcases h with h|⟨o,h⟩<;>rcases h' with h'|⟨o',h'⟩<;>rw[h] at h'<;>cases h'
 ·rfl
 ·cases hu
 ·cases hv
 ·rfl
theorem xx{H:Hp}{a:Addr}{u v:HO}(h:Rd H a u)(h':Rd H a v)(hu:HO.isDict u=true:=by rfl)(hv:HO.isDict v=true:=by rfl):u=v:=LC hu hv h h'
theorem Rep.noDict(I:Inv X pins σ H s){a:Addr}{ks:List (Key×V)}{ts:List (List Key×V)}(h1:Rd H a (.dK ks)\/Rd H a (.dT ts))(h2:(∃ xs,SqL X.K H a xs)\/∃ xs,SqT X.K H a xs):False:=by
 have d:∃ o es ep,s.heap.get? a=some o/\o.data=.dict es ep:=by
  rcases h1 with h1|h1
  ·obtain⟨_,_,_,_,o,es,ep,e,x,d,_⟩:=h1.ok I.hok;exact⟨o,es,ep,e,d⟩
  ·obtain⟨_,_,_,_,o,es,ep,e,x,d,_⟩:=h1.ok I.hok;exact⟨o,es,ep,e,d⟩
 obtain⟨o,es,ep,e,d⟩:=d;rcases h2 with⟨xs,h2⟩|⟨xs,h2⟩
 ·obtain⟨_,_,p1,_⟩:=I.list h2;obtain⟨o',n,e',_,_,d'⟩:=p1;rw[e] at e';cases e';rw[d] at d';cases d'
 ·obtain⟨_,_,p1,_⟩:=I.tuple h2;obtain⟨o',e',_,n,d'⟩:=p1;rw[e] at e';cases e';rw[d] at d';cases d'
theorem XO.at(I:Inv X pins σ H s){a C:Addr}{d:Option Addr}(h:H a=some (XO a C d)):∃ vs:Array Value,s.heap.get? a=some { cls:=.ref C,dict:=d,data:=.fields vs }:=(I.hok _ _ h).1
theorem XO.inj(I:Inv X pins σ H s){a C C':Addr}{d d':Option Addr}(h:H a=some (XO a C d))(h':H a=some (XO a C' d')):C=C'/\d=d':=by
 obtain⟨vs,e⟩:=XO.at I h;obtain⟨vs',e'⟩:=XO.at I h';rw[e] at e';cases e';exact⟨rfl,rfl⟩
theorem XO.noSeq(I:Inv X pins σ H s){a C:Addr}{d:Option Addr}(h:H a=some (XO a C d))(h2:(∃ xs,SqL X.K H a xs)\/∃ xs,SqT X.K H a xs):False:=by
 obtain⟨vs,e⟩:=XO.at I h;rcases h2 with⟨xs,h2⟩|⟨xs,h2⟩
 ·obtain⟨_,_,p1,_⟩:=I.list h2;obtain⟨o',n,e',_,_,d'⟩:=p1;rw[e] at e';cases e';cases d'
 ·obtain⟨_,_,p1,_⟩:=I.tuple h2;obtain⟨o',e',_,n,d'⟩:=p1;rw[e] at e';cases e';cases d'
theorem XNm.inj{K:Frag}{C:Addr}{c c':Str}(a:XNm K C c)(b:XNm K C c'):c=c':=by
 obtain⟨cd,h1,h2⟩:=a.cl;obtain⟨cd',h1',h2'⟩:=b.cl;rw[h1] at h1';cases h1';exact h2.symm.trans h2'
theorem Rep.inj(I:Inv X pins σ H s){x:V}{p:PV}(h:Rep X.K H x p):∀ {q:PV},Rep X.K H x q->p=q:=by
 have pairs:∀ {κ:Type}{xs:List (κ×V)}{l m:List (κ×PV)},xs.map (·.1)=l.map (·.1)->xs.map (·.1)=m.map (·.1)->(∀ (j:Nat) x p q,xs[j]?=some x->l[j]?=some p->m[j]?=some q->p.2=q.2)->l=m:=by
  intro κ xs l m h1 h2 h3;have l1:xs.length=l.length:=by simpa using ZbJ List.length h1
  have l2:xs.length=m.length:=by simpa using ZbJ List.length h2
  apply Zbs
  intro j;by_cases hj:j<xs.length
  ·have hl:j<l.length:=by lia
   have hm:j<m.length:=by lia
   rw[Zaa hl,Zaa hm];have k:=ZbJ (·[j]?) (h1.symm.trans h2);simp[hl,hm] at k;have v:=h3 j xs[j] l[j] m[j] (by simp[hj]) (by simp[hl]) (by simp[hm])
   rw[Prod.ext k v]
  ·rw[ZaH (by lia),ZaH (by lia)]
 induction h with
 |non=>intro q h';cases h';rfl
 |bl=>intro q h';cases h';rfl
 |int=>intro q h';cases h';rfl
 |str=>intro q h';cases h';rfl
 |ty=>intro q h';cases h';rfl
 |@tup a xs l h hl _ ih=>
  intro q h';have h:=SqT.of (K:=X.K) h;cases h' with
  |tup h2 hl2 hr2=>
   cases I.vQ h (SqT.of (K:=X.K) h2);rw[zq hl hl2 λj x p q e1 e2 e3=>ih j x p e1 e2 (hr2 j x q e1 e3)]
  |lst h2=>exact(Rep.kinds I h2 h).elim
  |dk h2=>exact(Rep.noDict I (ts:=[]) (.inl h2) (.inr ⟨_,h⟩)).elim
  |dt h2=>exact(Rep.noDict I (ks:=[]) (.inr h2) (.inr ⟨_,h⟩)).elim
  |exc _ h2=>exact(XO.noSeq I h2 (.inr ⟨_,h⟩)).elim
  |exc0 _ h2=>exact(XO.noSeq I h2 (.inr ⟨_,h⟩)).elim
 |@lst a xs l h hl _ ih=>
  intro q h';cases h' with
  |tup h2=>exact(Rep.kinds I h (SqT.of h2)).elim
  |lst h2 hl2 hr2=>
   cases I.t6 h h2;rw[zq hl hl2 λj x p q e1 e2 e3=>ih j x p e1 e2 (hr2 j x q e1 e3)]
  |dk h2=>exact(Rep.noDict I (ts:=[]) (.inl h2) (.inl ⟨_,h⟩)).elim
  |dt h2=>exact(Rep.noDict I (ks:=[]) (.inr h2) (.inl ⟨_,h⟩)).elim
  |exc _ h2=>exact(XO.noSeq I h2 (.inl ⟨_,h⟩)).elim
  |exc0 _ h2=>exact(XO.noSeq I h2 (.inl ⟨_,h⟩)).elim
 |@dk a xs l h hl _ ih=>
  intro q h';cases h' with
  |tup h2=>exact(Rep.noDict I (ts:=[]) (.inl h) (.inr ⟨_,SqT.of h2⟩)).elim
  |lst h2=>exact(Rep.noDict I (ts:=[]) (.inl h) (.inl ⟨_,h2⟩)).elim
  |dk h2 hl2 hr2=>
   cases (xx h h2);rw[pairs hl hl2 λj x p q e1 e2 e3=>ih j x p e1 e2 (hr2 j x q e1 e3)]
  |dt h2=>cases xx h h2
  |exc _ h2=>rcases h with h|⟨o,h⟩<;>rw[h] at h2<;>cases h2
  |exc0 _ h2=>rcases h with h|⟨o,h⟩<;>rw[h] at h2<;>cases h2
 |@dt a xs l h hl _ ih=>
  intro q h';cases h' with
  |tup h2=>exact(Rep.noDict I (ks:=[]) (.inr h) (.inr ⟨_,SqT.of h2⟩)).elim
  |lst h2=>exact(Rep.noDict I (ks:=[]) (.inr h) (.inl ⟨_,h2⟩)).elim
  |dk h2=>cases xx h h2
  |dt h2 hl2 hr2=>
   cases (xx h h2);rw[pairs hl hl2 λj x p q e1 e2 e3=>ih j x p e1 e2 (hr2 j x q e1 e3)]
  |exc _ h2=>rcases h with h|⟨o,h⟩<;>rw[h] at h2<;>cases h2
  |exc0 _ h2=>rcases h with h|⟨o,h⟩<;>rw[h] at h2<;>cases h2
 |@exc a C dx c xs l nm h hd hl _ ih=>
  intro q h';cases h' with
  |tup h2=>exact(XO.noSeq I h (.inr ⟨_,SqT.of h2⟩)).elim
  |lst h2=>exact(XO.noSeq I h (.inl ⟨_,h2⟩)).elim
  |dk h2=>rcases h2 with h2|⟨o,h2⟩<;>rw[h] at h2<;>cases h2
  |dt h2=>rcases h2 with h2|⟨o,h2⟩<;>rw[h] at h2<;>cases h2
  |exc nm2 h2 hd2 hl2 hr2=>
   obtain⟨rfl,e⟩:=XO.inj I h h2;cases e;rw[hd] at hd2;cases hd2;cases XNm.inj nm nm2;rw[pairs hl hl2 λj x p q e1 e2 e3=>ih j x p e1 e2 (hr2 j x q e1 e3)]
  |exc0 nm2 h2=>cases (XO.inj I h h2).2
 |@exc0 a C c nm h=>
  intro q h';cases h' with
  |tup h2=>exact(XO.noSeq I h (.inr ⟨_,SqT.of h2⟩)).elim
  |lst h2=>exact(XO.noSeq I h (.inl ⟨_,h2⟩)).elim
  |dk h2=>rcases h2 with h2|⟨o,h2⟩<;>rw[h] at h2<;>cases h2
  |dt h2=>rcases h2 with h2|⟨o,h2⟩<;>rw[h] at h2<;>cases h2
  |exc nm2 h2=>cases (XO.inj I h h2).2
  |exc0 nm2 h2=>
   obtain⟨rfl,_⟩:=XO.inj I h h2;cases XNm.inj nm nm2;rfl
theorem Jr(I:Inv X pins σ H s):∀ {A:Around}{x y:V}{p q:PV}{r:Bool}{u v:Value},A.units<cLine->eqF 0 p q=some r->Rep X.K H x p->Rep X.K H y q->RelV x u->RelV y v ->
  SeqAt.RcAt A s u v r/\SeqAt.EqAt A s u v r/\SeqAt.RcNeAt A s u v (!r):=by
 intro A x y p q r u v hu e rx ry ru rv;have hu0:A.units<cLine:=hu
 match p,q,e with
 |.non,.non,e=>
  have e:=Zad e;subst e;cases Rep.fK rx;cases Rep.fK ry;cases ru;cases rv;exact⟨SeqAt.RcAt.none_none,SeqAt.EqAt.same _,SeqAt.RcNeAt.none_none⟩
 |.non,.bl b,e=>
  have e:=Zad e;subst e;cases Rep.fK rx;cases Rep.lY ry;cases ru;cases rv;exact⟨SeqAt.RcAt.none_bool _,SeqAt.EqAt.none_bool _,SeqAt.RcNeAt.none_bool _⟩
 |.non,.int b,e=>
  have e:=Zad e;subst e;cases Rep.fK rx;cases Rep.bu ry;cases ru;obtain⟨tb,rfl⟩:=rv;exact⟨SeqAt.RcAt.none_int _ _,SeqAt.EqAt.none_int _ _,SeqAt.RcNeAt.none_int _ _⟩
 |.non,.str b,e=>
  have e:=Zad e;subst e;cases Rep.fK rx;cases Rep.bG ry;cases ru;obtain⟨tb,rfl⟩:=rv;exact⟨SeqAt.RcAt.none_str _ _,SeqAt.EqAt.none_str _ _,SeqAt.RcNeAt.none_str _ _⟩
 |.bl a,.non,e=>
  have e:=Zad e;subst e;cases Rep.lY rx;cases Rep.fK ry;cases ru;cases rv;exact⟨SeqAt.RcAt.bool_none _,SeqAt.EqAt.bool_none _,SeqAt.RcNeAt.bool_none _⟩
 |.bl a,.bl b,e=>
  have e:=Zad e;subst e;cases Rep.lY rx;cases Rep.lY ry;cases ru;cases rv;rw[<-Bool.beq_eq_decide_eq];exact⟨SeqAt.RcAt.bool_bool _ _,SeqAt.EqAt.bool_bool _ _,SeqAt.RcNeAt.bool_bool _ _⟩
 |.bl a,.str b,e=>
  have e:=Zad e;subst e;cases Rep.lY rx;cases Rep.bG ry;cases ru;obtain⟨tb,rfl⟩:=rv;exact⟨SeqAt.RcAt.bool_str _ _ _,SeqAt.EqAt.bool_str _ _ _,SeqAt.RcNeAt.bool_str _ _ _⟩
 |.int a,.non,e=>
  have e:=Zad e;subst e;cases Rep.bu rx;cases Rep.fK ry;obtain⟨ta,rfl⟩:=ru;cases rv;exact⟨SeqAt.RcAt.int_none _ _,SeqAt.EqAt.int_none _ _,SeqAt.RcNeAt.int_none _ _⟩
 |.int a,.int b,e=>
  have e:=Zad e;subst e;cases Rep.bu rx;cases Rep.bu ry;obtain⟨ta,rfl⟩:=ru;obtain⟨tb,rfl⟩:=rv;rw[<-Bool.beq_eq_decide_eq];exact⟨SeqAt.RcAt.int_int _ _ _ _,SeqAt.EqAt.int_int _ _ _ _,SeqAt.RcNeAt.int_int _ _ _ _⟩
 |.int a,.str b,e=>
  have e:=Zad e;subst e;cases Rep.bu rx;cases Rep.bG ry;obtain⟨ta,rfl⟩:=ru;obtain⟨tb,rfl⟩:=rv;exact⟨SeqAt.RcAt.int_str _ _ _ _,SeqAt.EqAt.int_str _ _ _ _,SeqAt.RcNeAt.int_str _ _ _ _⟩
 |.str a,.non,e=>
  have e:=Zad e;subst e;cases Rep.bG rx;cases Rep.fK ry;obtain⟨ta,rfl⟩:=ru;cases rv;exact⟨SeqAt.RcAt.str_none _ _,SeqAt.EqAt.str_none _ _,SeqAt.RcNeAt.str_none _ _⟩
 |.str a,.bl b,e=>
  have e:=Zad e;subst e;cases Rep.bG rx;cases Rep.lY ry;obtain⟨ta,rfl⟩:=ru;cases rv;exact⟨SeqAt.RcAt.str_bool _ _ _,SeqAt.EqAt.str_bool _ _ _,SeqAt.RcNeAt.str_bool _ _ _⟩
 |.str a,.int b,e=>
  have e:=Zad e;subst e;cases Rep.bG rx;cases Rep.bu ry;obtain⟨ta,rfl⟩:=ru;obtain⟨tb,rfl⟩:=rv;exact⟨SeqAt.RcAt.str_int _ _ _ _,SeqAt.EqAt.str_int _ _ _ _,SeqAt.RcNeAt.str_int _ _ _ _⟩
 |.str a,.str b,e=>
  have e:=Zad e;subst e;cases Rep.bG rx;cases Rep.bG ry;obtain⟨ta,rfl⟩:=ru;obtain⟨tb,rfl⟩:=rv;rw[<-Bool.beq_eq_decide_eq];exact⟨SeqAt.RcAt.str_str _ _ _ _,SeqAt.EqAt.str_str _ _ _ _,SeqAt.RcNeAt.str_str _ _ _ _⟩
 |.tup a,.non,e=>
  have e:=Zad e;subst e;obtain⟨aa,xsa,rfl,ha,_⟩:=rx.cD;cases ru;obtain⟨_,_,pa,_⟩:=I.tuple ha;cases Rep.fK ry;cases rv;exact⟨SeqAt.RcAt.tuple_none pa hu0,SeqAt.EqAt.tuple_none pa hu0,SeqAt.RcNeAt.tuple_none pa hu0⟩
 |.non,.tup b,e=>
  have e:=Zad e;subst e;cases Rep.fK rx;cases ru;obtain⟨ab,xsb,rfl,hb,_⟩:=ry.cD;cases rv;obtain⟨_,_,pb,_⟩:=I.tuple hb;exact⟨SeqAt.RcAt.none_tuple pb hu0,SeqAt.EqAt.none_tuple pb hu0,SeqAt.RcNeAt.none_tuple pb hu0⟩
 |.tup a,.int b,e=>
  have e:=Zad e;subst e;obtain⟨aa,xsa,rfl,ha,_⟩:=rx.cD;cases ru;obtain⟨_,_,pa,_⟩:=I.tuple ha;cases Rep.bu ry;obtain⟨tb,rfl⟩:=rv;exact⟨SeqAt.RcAt.tuple_int _ _ pa hu0,SeqAt.EqAt.tuple_int _ _ pa hu0,SeqAt.RcNeAt.tuple_int _ _ pa hu0⟩
 |.int a,.tup b,e=>
  have e:=Zad e;subst e;cases Rep.bu rx;obtain⟨ta,rfl⟩:=ru;obtain⟨ab,xsb,rfl,hb,_⟩:=ry.cD;cases rv;obtain⟨_,_,pb,_⟩:=I.tuple hb;exact⟨SeqAt.RcAt.int_tuple _ _ pb hu0,SeqAt.EqAt.int_tuple _ _ pb hu0,SeqAt.RcNeAt.int_tuple _ _ pb hu0⟩
 |.tup a,.str b,e=>
  have e:=Zad e;subst e;obtain⟨aa,xsa,rfl,ha,_⟩:=rx.cD;cases ru;obtain⟨_,_,pa,_⟩:=I.tuple ha;cases Rep.bG ry;obtain⟨tb,rfl⟩:=rv;exact⟨SeqAt.RcAt.tuple_str _ _ pa hu0,SeqAt.EqAt.tuple_str _ _ pa hu0,SeqAt.RcNeAt.tuple_str _ _ pa hu0⟩
 |.str a,.tup b,e=>
  have e:=Zad e;subst e;cases Rep.bG rx;obtain⟨ta,rfl⟩:=ru;obtain⟨ab,xsb,rfl,hb,_⟩:=ry.cD;cases rv;obtain⟨_,_,pb,_⟩:=I.tuple hb;exact⟨SeqAt.RcAt.str_tuple _ _ pb hu0,SeqAt.EqAt.str_tuple _ _ pb hu0,SeqAt.RcNeAt.str_tuple _ _ pb hu0⟩
 |.lst a,.non,e=>
  have e:=Zad e;subst e;obtain⟨aa,xsa,rfl,ha,_⟩:=rx.cF;cases ru;obtain⟨_,_,pa,_⟩:=I.list ha;cases Rep.fK ry;cases rv;exact⟨SeqAt.RcAt.list_none pa.isList hu0,SeqAt.EqAt.list_none pa.isList hu0,SeqAt.RcNeAt.list_none pa.isList hu0⟩
 |.non,.lst b,e=>
  have e:=Zad e;subst e;cases Rep.fK rx;cases ru;obtain⟨ab,xsb,rfl,hb,_⟩:=ry.cF;cases rv;obtain⟨_,_,pb,_⟩:=I.list hb;exact⟨SeqAt.RcAt.none_list pb.isList hu0,SeqAt.EqAt.none_list pb.isList hu0,SeqAt.RcNeAt.none_list pb.isList hu0⟩
 |.lst a,.int b,e=>
  have e:=Zad e;subst e;obtain⟨aa,xsa,rfl,ha,_⟩:=rx.cF;cases ru;obtain⟨_,_,pa,_⟩:=I.list ha;cases Rep.bu ry;obtain⟨tb,rfl⟩:=rv;exact⟨SeqAt.RcAt.list_int _ _ pa.isList hu0,SeqAt.EqAt.list_int _ _ pa.isList hu0,SeqAt.RcNeAt.list_int _ _ pa.isList hu0⟩
 |.int a,.lst b,e=>
  have e:=Zad e;subst e;cases Rep.bu rx;obtain⟨ta,rfl⟩:=ru;obtain⟨ab,xsb,rfl,hb,_⟩:=ry.cF;cases rv;obtain⟨_,_,pb,_⟩:=I.list hb;exact⟨SeqAt.RcAt.int_list _ _ pb.isList hu0,SeqAt.EqAt.int_list _ _ pb.isList hu0,SeqAt.RcNeAt.int_list _ _ pb.isList hu0⟩
 |.lst a,.str b,e=>
  have e:=Zad e;subst e;obtain⟨aa,xsa,rfl,ha,_⟩:=rx.cF;cases ru;obtain⟨_,_,pa,_⟩:=I.list ha;cases Rep.bG ry;obtain⟨tb,rfl⟩:=rv;exact⟨SeqAt.RcAt.list_str _ _ pa.isList hu0,SeqAt.EqAt.list_str _ _ pa.isList hu0,SeqAt.RcNeAt.list_str _ _ pa.isList hu0⟩
 |.str a,.lst b,e=>
  have e:=Zad e;subst e;cases Rep.bG rx;obtain⟨ta,rfl⟩:=ru;obtain⟨ab,xsb,rfl,hb,_⟩:=ry.cF;cases rv;obtain⟨_,_,pb,_⟩:=I.list hb;exact⟨SeqAt.RcAt.str_list _ _ pb.isList hu0,SeqAt.EqAt.str_list _ _ pb.isList hu0,SeqAt.RcNeAt.str_list _ _ pb.isList hu0⟩
 |.lst a,.tup b,e=>
  have e:=Zad e;subst e;obtain⟨aa,xsa,rfl,ha,_⟩:=rx.cF;cases ru;obtain⟨_,_,pa,_⟩:=I.list ha;obtain⟨ab,xsb,rfl,hb,_⟩:=ry.cD;cases rv;obtain⟨_,_,pb,_⟩:=I.tuple hb;exact⟨SeqAt.RcAt.list_tuple pa.isList pb hu0,SeqAt.EqAt.list_tuple pa.isList pb hu0,SeqAt.RcNeAt.list_tuple pa.isList pb hu0⟩
 |.tup a,.lst b,e=>
  have e:=Zad e;subst e;obtain⟨aa,xsa,rfl,ha,_⟩:=rx.cD;cases ru;obtain⟨_,_,pa,_⟩:=I.tuple ha;obtain⟨ab,xsb,rfl,hb,_⟩:=ry.cF;cases rv;obtain⟨_,_,pb,_⟩:=I.list hb;exact⟨SeqAt.RcAt.tuple_list pa pb.isList hu0,SeqAt.EqAt.tuple_list pa pb.isList hu0,SeqAt.RcNeAt.tuple_list pa pb.isList hu0⟩
def Js:PV->PV->Bool
 |.tup _,.tup _=>true
 |.lst _,.lst _=>true
 |_,_=>false
theorem Jt{n:Nat}{p q:PV}(h:Js p q=false):eqF (n+1) p q=eqF 0 p q:=by
 cases p<;>cases q<;>first|rfl|cases h
theorem Hg:∀ {p q:PV},Js p q=true->(∃ l m,p=.tup l/\q=.tup m)\/∃ l m,p=.lst l/\q=.lst m
 |.tup l,q,h=>by
  cases q with
  |tup m=>exact .inl ⟨l,m,rfl,rfl⟩
  |_=>cases h
 |.lst l,q,h=>by
  cases q with
  |lst m=>exact .inr ⟨l,m,rfl,rfl⟩
  |_=>cases h
theorem Ju(I:Inv X pins σ H s):∀ (n:Nat) {A:Around}{x y:V}{p q:PV}{r:Bool}{u v:Value},A.units+n<cLine->eqF n p q=some r->Rep X.K H x p->Rep X.K H y q->RelV x u->RelV y v ->
  SeqAt.RcAt A s u v r/\SeqAt.EqAt A s u v r/\SeqAt.RcNeAt A s u v (!r):=by
 intro n;induction n with
 |zero=>exact λhu e=>Jr I (by lia) e
 |succ n ih=>
  intro A x y p q r u v hu e rx ry ru rv;have hu0:A.units<cLine:=by lia
  cases hr:Js p q with
  |false=>exact Jr I hu0 (by rw[<-Jt hr];exact e) rx ry ru rv
  |true=>
  rcases Hg hr with⟨l,m,rfl,rfl⟩|⟨l,m,rfl,rfl⟩
  ·have e:eqL (eqF n) l m=some r:=e;obtain⟨a,xs,rfl,ha,r1⟩:=rx.cD;obtain⟨b,ys,rfl,hb,r2⟩:=ry.cD;cases ru;cases rv;obtain⟨i1,v1,t1,_⟩:=I.tuple ha;obtain⟨i2,v2,t2,_⟩:=I.tuple hb;obtain⟨g,g1,g2⟩:=xu e;have hj:∀ j (h1:j<i1.toArray.size) (h2:j<i2.toArray.size),SeqAt.EqAt A.in1 s i1.toArray[j] i2.toArray[j] (g j):=λj h1 h2=>by
    obtain⟨x,hx,rx'⟩:=pO v1 h1;obtain⟨y,hy,ry'⟩:=pO v2 h2;obtain⟨p',hp,rp⟩:=r1.got hx;obtain⟨q',hq,rq⟩:=r2.got hy;exact(ih (A:=A.in1) (show A.units+1+n<cLine by lia) (g1 j p' q' hp hq) rp rq rx' ry').2.1
   have rc:=SeqAt.RcAt.tuples (A:=A) (e:=g) t1 t2 hu0 hj;have rn:=SeqAt.RcNeAt.tuples (A:=A) (e:=g) t1 t2 hu0 hj;rw[List.size_toArray,List.size_toArray,<-v1.length,<-v2.length,r1.1,r2.1,<-g2] at rc rn;refine⟨rc,?_,rn⟩;by_cases hab:a=b
   ·subst hab;have epq:PV.tup l=PV.tup m:=Rep.inj I rx ry;cases epq;have er:=mj (zp n) e;subst er;exact SeqAt.EqAt.same _
   ·exact .of_refs hab rc
  ·obtain⟨a,xs,rfl,ha,r1⟩:=rx.cF;obtain⟨b,ys,rfl,hb,r2⟩:=ry.cF;cases ru;cases rv;obtain⟨i1,v1,t1,_⟩:=I.list ha;obtain⟨i2,v2,t2,_⟩:=I.list hb;have e:(if l.length=m.length then eqL (eqF n) l m else some false)=some r:=e;split at e
   ·rename_i hlm;obtain⟨g,g1,g2⟩:=xu e;have hz:i1.toArray.size=i2.toArray.size:=by rw[List.size_toArray,List.size_toArray,<-v1.length,<-v2.length,r1.1,r2.1];exact hlm
    have hj:∀ j (h1:j<i1.toArray.size) (h2:j<i2.toArray.size),SeqAt.EqAt A.in1 s i1.toArray[j] i2.toArray[j] (g j):=λj h1 h2=>by
     obtain⟨x,hx,rx'⟩:=pO v1 h1;obtain⟨y,hy,ry'⟩:=pO v2 h2;obtain⟨p',hp,rp⟩:=r1.got hx;obtain⟨q',hq,rq⟩:=r2.got hy;exact(ih (A:=A.in1) (show A.units+1+n<cLine by lia) (g1 j p' q' hp hq) rp rq rx' ry').2.1
    have rc:=SeqAt.RcAt.lists (A:=A) (e:=g) t1.isList t2.isList hz hu0 hj;have e2:r=(List.range l.length).all g:=by rw[g2,<-hlm,Nat.min_self,beq_self_eq_true,Bool.and_true]
    have rn:=SeqAt.RcNeAt.lists (A:=A) (e:=g) t1.isList t2.isList hz hu0 hj;rw[List.size_toArray,<-v1.length,r1.1,<-e2] at rc rn;refine⟨rc,?_,rn⟩;by_cases hab:a=b
    ·subst hab;have epq:PV.lst l=PV.lst m:=Rep.inj I rx ry;cases epq;have er:=mj (zp n) e;subst er;exact SeqAt.EqAt.same _
    ·exact .of_refs hab rc
   ·rename_i hlm;cases e;have hz:(i1.toArray.size != i2.toArray.size)=true:=by rw[List.size_toArray,List.size_toArray,<-v1.length,<-v2.length,r1.1,r2.1];simpa using hlm
    have rc:=SeqAt.RcAt.lists_lengths (A:=A) t1.isList t2.isList hz hu0;have hab:a≠b:=λz=>by
     subst z;have epq:PV.lst l=PV.lst m:=Rep.inj I rx ry;cases epq;exact hlm rfl
    exact⟨rc,.of_refs hab rc,SeqAt.RcNeAt.lists_lengths (A:=A) t1.isList t2.isList hz hu0⟩
end
section
variable{X:Cx}{k:Nat}
theorem OpR.or{f:Value->Value->Sem Value}{r r':R2}(h:OpR X f r)(h':OpR X f r'):OpR X f (λx y H Q=>r x y H Q\/r' x y H Q):=by
 intro pins s σ H x y v u Q I rx ry q;rcases q with q|q
 ·exact h pins s σ H x y v u Q I rx ry q
 ·exact h' pins s σ H x y v u Q I rx ry q
def Qn(K:Frag):R2:=λx y H Q=>∃ p q r,Rep K H x p/\Rep K H y q/\eqF 32 p q=some r/\Q (.bl r) H
def RK(K:Frag):R2:=λx y H Q=>∃ p q r,Rep K H x p/\Rep K H y q/\eqF 32 p q=some r/\Q (.bl (!r)) H
theorem uq(hr:dH k X.A):OpR X (compareOp .Eq) (Qn X.K):=by
 intro pins s σ H x y v u Q I rx ry h;obtain⟨p,q,r,h1,h2,e,h3⟩:=h;exact(Ju I 32 (Cu hr) e h1 h2 rx ry).1 X.prog X.w X.xe _ ⟨.bl r,H,I,rfl,h3⟩
theorem Qo(hr:dH k X.A):OpR X (compareOp .NotEq) (RK X.K):=by
 intro pins s σ H x y v u Q I rx ry h;obtain⟨p,q,r,h1,h2,e,h3⟩:=h;exact(Ju I 32 (Cu hr) e h1 h2 rx ry).2.2 X.prog X.w X.xe _ ⟨.bl (!r),H,I,rfl,h3⟩
def inF(p:PV):List PV->Option Bool
 |[]=>some false
 |x::xs=>match eqF 31 x p,inF p xs with
  |some a,some b=>some (a||b)
  |_,_=>none
theorem El{p:PV}:∀ {l:List PV}{r:Bool},inF p l=some r->∃ e:Nat->Bool,(∀ (j:Nat) x,l[j]?=some x->eqF 31 x p=some (e j))/\r=(List.range l.length).any e
 |[],r,h=>⟨λ_=>true,λj x a=>by simp at a,by cases h;rfl⟩
 |x::xs,r,h=>by
  rw[inF] at h;split at h
  ·rename_i a b h1 h2;cases h;obtain⟨e,e1,e2⟩:=El h2;refine⟨λj=>match j with|0=>a|j+1=>e j,λj x' a'=>?_,?_⟩
   ·cases j with
    |zero=>simp at a';subst a';exact h1
    |succ j=>exact e1 j x' (by simpa using a')
   ·rw[e2,ZaK,List.range_succ_eq_map,ZbQ,List.any_map];rfl
  ·cases h
def LK(K:Frag)(neg:Bool):R2:=λx y H Q=>∃ p l r,Rep K H x p/\(Rep K H y (.lst l)\/Rep K H y (.tup l))/\inF p l=some r/\Q (.bl (if neg=true then !r else r)) H
theorem pW{pins:List (Addr×Obj)}{σ:St}{H:Hp}{s:Shared}(I:Inv X pins σ H s)(hr:dH k X.A){x:V}{v:Value}{p:PV}{xs:List V}{its:List Value}{l:List PV}{r:Bool}(rx:RelV x v)(h1:Rep X.K H x p)(rv:Vals xs its)(hl:bQ X.K H xs l)(e:inF p l=some r) :
  ∃ f:Value->Bool,(∀ y,y∈its.toArray->SeqAt.EqAt X.A.in1 s y v (f y))/\its.toArray.any f=r:=by
 obtain⟨g,g1,g2⟩:=El e;have key:∀ w'∈its,∃ j,∃ hj:j<its.length,its[j]=w':=λw' hw=>by
  obtain⟨j,hj,e⟩:=List.mem_iff_getElem.mp hw;exact⟨j,hj,e⟩
 have look:∀ (j:Nat) (hj:j<its.length),∃ z q,l[j]?=some q/\RelV z its[j]/\Rep X.K H z q/\eqF 31 q p=some (g j):=λj hj=>by
  obtain⟨z,hz,rz⟩:=pO rv (j:=j) (by simpa using hj)
  obtain⟨q,hq,rq⟩:=hl.got hz;exact⟨z,q,hq,by simpa using rz,rq,g1 j q hq⟩
 classical
 let f:Value->Bool:=λw'=>if h:∃ j,∃ hj:j<its.length,its[j]=w' then g (Classical.choose h) else false
 have fe:∀ (j:Nat) (hj:j<its.length),f its[j]=g j:=λj hj=>by
  have hx:∃ i,∃ hi:i<its.length,its[i]=its[j]:=⟨j,hj,rfl⟩;show(if h:∃ i,∃ hi:i<its.length,its[i]=its[j] then g (Classical.choose h) else false)=g j
  rw[dif_pos hx];obtain⟨h1',h2'⟩:=Classical.choose_spec hx;generalize Classical.choose hx=i at h1' h2' ⊢
  obtain⟨z,q,_,rz,rq,eq1⟩:=look i h1';obtain⟨z',q',_,rz',rq',eq2⟩:=look j hj;rw[h2'] at rz;cases rz.inj rz';cases Rep.inj I rq rq';rw[eq1] at eq2;exact Zad eq2
 refine⟨f,λy hy=>?_,?_⟩
 ·obtain⟨j,hj,e1⟩:=key y (by simpa using hy)
  obtain⟨z,q,_,rz,rq,eq1⟩:=look j hj;rw[<-e1,fe j hj];exact(Ju I 31 (A:=X.A.in1) (show X.A.units+1+31<cLine by have:=Cu hr;lia) eq1 rq h1 rz rx).2.1
 ·have hlen:its.length=l.length:=by rw[<-rv.length,hl.1]
  rw[g2,show its.toArray.any f=its.any f by simp,Bool.eq_iff_iff,List.any_eq_true,List.any_eq_true]
  constructor
  ·rintro⟨w',hw,hf⟩;obtain⟨j,hj,e1⟩:=key w' hw;exact⟨j,ZaA.mpr (by lia),by rw[<-fe j hj,e1];exact hf⟩
  ·rintro⟨j,hj,hf⟩;have hj':j<its.length:=by rw[hlen];exact ZaA.mp hj
   exact⟨its[j],List.getElem_mem hj',by rw[fe j hj'];exact hf⟩
theorem Qp(hr:dH k X.A):OpR X (compareOp .In) (LK X.K false):=by
 intro pins s σ H x y v u Q I rx ry h;obtain⟨p,l,r,h1,h2,e,q⟩:=h;rcases h2 with h2|h2
 ·obtain⟨a,xs,rfl,hq,rr⟩:=h2.cF;cases ry;obtain⟨its,rv,pl,_⟩:=I.list hq;obtain⟨f,f1,f2⟩:=pW I hr rx h1 rv rr e;exact SeqAt.in_listAt f pl.isList f1 (by rw[f2];exact⟨.bl _,H,I,rfl,q⟩)
 ·obtain⟨a,xs,rfl,hq,rr⟩:=h2.cD;cases ry;obtain⟨its,rv,pl,_⟩:=I.tuple hq;obtain⟨f,f1,f2⟩:=pW I hr rx h1 rv rr e;exact SeqAt.in_tupleAt f pl f1 (by rw[f2];exact⟨.bl _,H,I,rfl,q⟩)
theorem Hh(hr:dH k X.A):OpR X (compareOp .NotIn) (LK X.K true):=by
 intro pins s σ H x y v u Q I rx ry h;obtain⟨p,l,r,h1,h2,e,q⟩:=h;rcases h2 with h2|h2
 ·obtain⟨a,xs,rfl,hq,rr⟩:=h2.cF;cases ry;obtain⟨its,rv,pl,_⟩:=I.list hq;obtain⟨f,f1,f2⟩:=pW I hr rx h1 rv rr e;exact SeqAt.notIn_listAt f pl.isList f1 (by rw[f2];exact⟨.bl _,H,I,rfl,q⟩)
 ·obtain⟨a,xs,rfl,hq,rr⟩:=h2.cD;cases ry;obtain⟨its,rv,pl,_⟩:=I.tuple hq;obtain⟨f,f1,f2⟩:=pW I hr rx h1 rv rr e;exact SeqAt.notIn_tupleAt f pl f1 (by rw[f2];exact⟨.bl _,H,I,rfl,q⟩)
def RL(K:Frag):R2:=λx y H Q=>LK K false x y H Q\/∃ i j,x=.str i/\y=.str j/\Q (.bl (!(Builtin.Str.occurrences j i 0 j.length 1).isEmpty)) H
def Em(K:Frag):R2:=λx y H Q=>LK K true x y H Q\/∃ i j,x=.str i/\y=.str j/\Q (.bl (!(!(Builtin.Str.occurrences j i 0 j.length 1).isEmpty))) H
theorem Qq(hr:dH k X.A):OpR X (compareOp .In) (RL X.K):=OpR.or (Qp hr) GP
theorem Hi(hr:dH k X.A):OpR X (compareOp .NotIn) (Em X.K):=OpR.or (Hh hr) wU
def Jv(K:Frag):R2:=λx y H Q=>rI0 (λi j=>.int (i+j)) x y H Q\/(∃ i j,x=.str i/\y=.str j/\i.length+j.length<=sizeLine/\Q (.str (i++j)) H)\/Jc K x y H Q
theorem bH:OpR X (binaryOp .Add) (Jv X.K):=OpR.or PN (OpR.or Cm Ef)
def Ox:R2:=λx y H Q=>rI Cj (λi j=>.int (i*j)) x y H Q\/∃ z n,x=.str z/\y=.int n/\-(2^63)<=n/\n<2^63/\z.length*n.toNat<=sizeLine/\Q (.str ⟨(List.replicate n.toNat z.cps).foldl (·++·) #[]⟩) H
theorem pX:OpR X (binaryOp .Mult) Ox:=by
 refine OpR.or PQ ?_;intro pins s σ H x y v u Q I rx ry h;obtain⟨z,n,rfl,rfl,h1,h2,h3,q⟩:=h;obtain⟨t,rfl⟩:=rx;obtain⟨t',rfl⟩:=ry;have fin:∀ t k,EP X pins σ Q (.str ⟨(List.replicate n.toNat z.cps).foldl (·++·) #[]⟩ t) { s with toks:=k }:=λt k=>⟨.str _,H,I.tok _,⟨t,rfl⟩,q⟩;have hr:(decide (n < -(2^63:Int))||decide (n>=2^63))=false:=by
  rw[ZaD (by omega),ZaD (by omega)];rfl
 refine PySem.P.mul_str hr (λh4 h5=>?_) (λh4 h5=>?_) ?_
 ·have hn:1<=n:=by omega
  have h6:z.length<=sizeLine:=by
   have:z.length*1<=z.length*n.toNat:=Nat.mul_le_mul_left _ (by omega)
   omega
  have h7:n≠1:=λe=>by subst e;simp at h5
  have h8:(z.length:Int)*n<=16777216:=by
   have e:(z.length:Int)*n=((z.length*n.toNat:Nat):Int):=by
    rw[Int.natCast_mul,Zbt (by omega)]
   rw[e];have:z.length*n.toNat<=16777216:=h3;omega
  have h9:(z.length:Int)<=(2^63-1)/n:=by
   apply(Int.le_ediv_iff_mul_le (by omega)).mpr
   omega
  omega
 ·unfold Builtin.Str.tooLong;exact ZaD (by omega)
 ·by_cases h4:n<1
  ·rw[Zah h4];have e:n.toNat=0:=by omega
   rw[e] at fin;exact⟨Zbb _,fin _ _⟩
  ·rw[Zai h4];refine post_val_or_str ⟨?_,λt' k=>?_⟩
   ·have e1:∀ (m:Nat) (acc:Array Nat),((List.replicate m z.cps).foldl (·++·) acc).size=acc.size+m*z.cps.size:=λm=>by
     induction m with
     |zero=>intro acc;simp
     |succ m ih=>intro acc;rw[List.replicate_succ,List.foldl_cons,ih,Array.size_append,Nat.succ_mul];omega
    have h6:z.length<=sizeLine:=by
     have:z.length*1<=z.length*n.toNat:=Nat.mul_le_mul_left _ (by omega)
     omega
    split
    ·exact h6
    ·show((List.replicate n.toNat z.cps).foldl (·++·) #[]).size<=sizeLine
     rw[e1,Nat.mul_comm];show 0+z.length*n.toNat<=_
     omega
   ·have fz:=fin t' k;split
    ·rename_i h5;have e:(⟨(List.replicate n.toNat z.cps).foldl (·++·) #[]⟩:Str)=z:=by
      rcases Bool.or_eq_true _ _▸h5 with h|h
      ·have:n=1:=by simpa using h
       subst this;show(⟨#[]++z.cps⟩:Str)=z
       rw[Array.empty_append]
      ·have h1:z.length=0:=by simpa using h
       have h0:z.cps=#[]:=Array.eq_empty_of_size_eq_zero h1;have e2:∀ m:Nat,(List.replicate m (#[]:Array Nat)).foldl (·++·) #[]=#[]:=λm=>by
        induction m with
        |zero=>rfl
        |succ m ih=>rw[List.replicate_succ,List.foldl_cons];exact ih
       cases z with
       |mk c=>cases h0;rw[e2]
     rw[e] at fz;exact fz
    ·exact fz
def RM:R2:=λx y H Q=>rI0 (λi j=>.bl (decide (i<j))) x y H Q\/∃ i j,x=.str i/\y=.str j/\Q (.bl (decide (i.cps.toList<j.cps.toList))) H
theorem Cz:OpR X (compareOp .Lt) RM:=OpR.or Rp GK
def RN:R2:=λx y H Q=>rI0 (λi j=>.bl (decide (i<=j))) x y H Q\/∃ i j,x=.str i/\y=.str j/\Q (.bl (!(decide (j.cps.toList<i.cps.toList)))) H
theorem Qs:OpR X (compareOp .LtE) RN:=OpR.or Rq Hc
theorem Hj(l b:Addr)(i1 i2:Array Value)(n1 n2:Nat)(s1 s2:Array (Option Value))(hz:i1.size+i2.size<=sizeLine) :
  Meets (Builtin.«list.__add__» ⟨[.ref l,.ref b],[]⟩) (λ_ R s=>s.heap.get? l=some ⟨.type "list",none,.seq i1 n1,s1⟩/\s.heap.get? b=some ⟨.type "list",none,.seq i2 n2,s2⟩ /\
   R (.ok (.ret (Value.ref s.heap.objs.size))) { s with heap:=s.heap.push { cls:=Value.type "list",data:=Data.seq (i1++i2) } }):=by
 refine .of_wp λprog w A R s h=>?_;obtain⟨hp,g,d,tk,os⟩:=s;obtain⟨h1,h2,h⟩:=h;have f1:=AutoSeq1.idx_int;have f2:=AutoSeq1.sub_tuple_tuple;have f3:=AutoSeq1.sub_list_list;have f4:=AutoSeq1.sub_tuple_list;have f5:=AutoSeq1.sub_list_tuple
 wp_walk using AutoSeq1.wpAny_loadPart' h1,AutoSeq1.wpAny_loadPart' h2
 exact⟨_,rfl,h⟩
theorem LR:OpR X (binaryOp .Add) (λx y H Q=>∃ l b xs zs,x=.ref l/\y=.ref b/\SqL X.K H l xs/\SqL X.K H b zs/\xs.length+zs.length<=sizeLine/\∀ p,H p=none->Q (.ref p) (upd H p (.lst (xs++zs)))):=by
 intro pins s σ H x y v u Q I rx ry h;obtain⟨l,b,xs,zs,rfl,rfl,hH,hB,hz,q⟩:=h;cases rx;cases ry;obtain⟨its,r,⟨⟨cl1,dd1,da1,sl1⟩,n1,g1,c1,d1,e1⟩,z1⟩:=I.list hH;obtain⟨its2,r2,⟨⟨cl2,dd2,da2,sl2⟩,n2,g2,c2,d2,e2⟩,z2⟩:=I.list hB;simp only at c1 d1 e1 c2 d2 e2;subst c1 d1 e1 c2 d2 e2;have hs:its.toArray.size+its2.toArray.size<=sizeLine:=by rw[List.size_toArray,List.size_toArray,<-r.length,<-r2.length];exact hz
 refine concat_meets ⟨_,g1,rfl⟩ ⟨_,g2,rfl⟩ noFill_list_add seq_list_add F.slot_list_add F.entry_list_add (F.args_list_add_2 _ _) (Hj l b its.toArray its2.toArray n1 n2 sl1 sl2 hs) ⟨g1,g2,?_⟩;have ea:its.toArray++its2.toArray=(its++its2).toArray:=by simp
 rw[ea];exact⟨.ref _,_,I.S9 (t':=s.toks) (r.append r2) (by rw[List.length_append];lia),rfl,q _ I.fresh⟩
end
theorem noS{α:Type}{r:α}{C:Prop}(e:(none:Option α)=some r):C:=by cases e
def opI(c:Int->Int->Bool)(f:Int->Int->PV):PV->PV->Option (Res PV)
 |.int i,.int j=>if c i j=true then some (.ok (f i j)) else none
 |_,_=>none
def cT:Int->Int->Bool:=λ_ _=>true
def Jw:Int->Int->Bool:=λi j=>decide ((-(2^64)<i/\i<2^64)\/(-(2^64)<j/\j<2^64))
def Qt:Int->Int->Bool:=λ_ j=>decide (0<j/\j<1073741824)
def RP:Int->Int->Bool:=λ_ j=>decide (0<j)
def Jx:Int->Int->Bool:=λi j=>decide (0<=j/\j<=1000000/\i.natAbs<2^64)
def RQ:Int->Int->Bool:=λ_ j=>decide (0<=j)
def En:=opI cT λi j=>.int (i-j)
def fG:=opI Qt λi j=>.int (i/j)
def dw:=opI RP λi j=>.int (i%j)
def oG:=opI Jx λi j=>.int (i^j.toNat)
def ur:=opI Jx λi j=>.int (i*2^j.toNat)
def zr:=opI RQ λi j=>.int (i/2^j.toNat)
def Eo:=opI cT λi j=>.int (Builtin.bitAnd i j)
def Jy:=opI cT λi j=>.int (Builtin.bitOr i j)
def Jz:=opI cT λi j=>.bl (decide (j<i))
def Ma:=opI cT λi j=>.bl (decide (j<=i))
def cR:PV->PV->Option (Res PV)
 |.int i,.int j=>some (.ok (.int (i+j)))
 |.str i,.str j=>if i.length+j.length<=sizeLine then some (.ok (.str (i++j))) else none
 |.tup l,.tup m=>if l≠[]/\l.length+m.length<=sizeLine then some (.ok (.tup (l++m))) else none
 |_,_=>none
def Qu(z:Str)(n:Nat):Str:=⟨(List.replicate n z.cps).foldl (·++·) #[]⟩
def pY:PV->PV->Option (Res PV)
 |.int i,.int j=>if Jw i j=true then some (.ok (.int (i*j))) else none
 |.str z,.int n=>if -(2^63)<=n/\n<2^63/\z.length*n.toNat<=sizeLine then some (.ok (.str (Qu z n.toNat))) else none
 |_,_=>none
def Hk:PV->PV->Option (Res PV)
 |.int i,.int j=>some (.ok (.bl (decide (i<j))))
 |.str i,.str j=>some (.ok (.bl (decide (i.cps.toList<j.cps.toList))))
 |_,_=>none
def Mf:PV->PV->Option (Res PV)
 |.int i,.int j=>some (.ok (.bl (decide (i<=j))))
 |.str i,.str j=>some (.ok (.bl (!(decide (j.cps.toList<i.cps.toList)))))
 |_,_=>none
def sJ(p q:PV):Option (Res PV):=match eqF 32 p q with
 |some r=>some (.ok (.bl r))
 |none=>none
def zu(p q:PV):Option (Res PV):=match eqF 32 p q with
 |some r=>some (.ok (.bl (!r)))
 |none=>none
def inU(p:PV):PV->Option Bool
 |.lst l=>inF p l
 |.tup l=>inF p l
 |.str j=>match p with
  |.str i=>some (!(Builtin.Str.occurrences j i 0 j.length 1).isEmpty)
  |_=>none
 |_=>none
def Hl(p q:PV):Option (Res PV):=match inU p q with
 |some r=>some (.ok (.bl r))
 |none=>none
def nM(p q:PV):Option (Res PV):=match inU p q with
 |some r=>some (.ok (.bl (!r)))
 |none=>none
def ofO(x:Option PV):Option (Res PV):=match x with
 |some p=>some (.ok p)
 |none=>none
def fZ:PV->PV->Option (Res PV)
 |.lst l,.int i=>ofO (atI l i)
 |.tup l,.int i=>ofO (atI l i)
 |.str z,.int i=>if z.length<=sizeLine then ofO ((atI z.cps.toList i).map λc=>.str ⟨#[c]⟩) else none
 |_,_=>none
def JB:List PV->PV->Option (Res PV)
 |l,.int i=>ofO (atI l i)
 |_,_=>none
section
variable{K:Frag}{C:Cg}{F H:Hp}
theorem RT{i j:Int}(h:Qt i j=true):PL i j:=ZaT (p:=0<j/\j<1073741824) h
theorem Oz{i j:Int}(h:Jx i j=true):IW i j:=ZaT (p:=0<=j/\j<=1000000/\i.natAbs<2^64) h
theorem RV{i j:Int}(h:Jw i j=true):Cj i j:=ZaT (p:=(-(2^64)<i/\i<2^64)\/(-(2^64)<j/\j<2^64)) h
theorem ww{c:Int->Int->Bool}{f:Int->Int->PV}{cond:Int->Int->Prop}{fv:Int->Int->V}(hc:∀ i j,c i j=true->cond i j)(hf:∀ i j F,Rep K F (fv i j) (f i j)):R2M C (aF K) (aF K) (aF K) (rI cond fv) (opI c f):=by
 intro F H x y a b res Q s ha hb e P;have inv:(∃ i j,a=.int i/\b=.int j):=by
  clear P ha hb
  cases a<;>first|exact noS e|(cases b<;>first|exact noS e|exact⟨_,_,rfl,rfl⟩)
 obtain⟨i,j,rfl,rfl⟩:=inv;cases Rep.bu ha;cases Rep.bu hb;have e:(if c i j=true then some (Res.ok (f i j)) else none)=some res:=e;split at e
 ·rename_i h;cases e;exact⟨i,j,rfl,rfl,hc i j h,P _ F H (Up.refl s) (hf i j F)⟩
 ·cases e
theorem ut{f:Int->Int->PV}{fv:Int->Int->V}(hf:∀ i j F,Rep K F (fv i j) (f i j)):R2M C (aF K) (aF K) (aF K) (rI0 fv) (opI cT f):=by
 intro F H x y a b res Q s ha hb e P;have inv:(∃ i j,a=.int i/\b=.int j):=by
  clear P ha hb
  cases a<;>first|exact noS e|(cases b<;>first|exact noS e|exact⟨_,_,rfl,rfl⟩)
 obtain⟨i,j,rfl,rfl⟩:=inv;cases Rep.bu ha;cases Rep.bu hb;cases e;exact⟨i,j,rfl,rfl,P _ F H (Up.refl s) (hf i j F)⟩
theorem RW:R2M C (aF K) (aF K) (aF K) (rI0 λi j=>.int (i-j)) En:=ut λ_ _ _=>.int
theorem ig:R2M C (aF K) (aF K) (aF K) (rI PL λi j=>.int (i/j)) fG:=ww (λ_ _ h=>RT h) λ_ _ _=>.int
theorem dU:R2M C (aF K) (aF K) (aF K) (rI (λ_ j=>0<j) λi j=>.int (i%j)) dw:=ww (λ_ _ h=>ZaT h) λ_ _ _=>.int
theorem uv:R2M C (aF K) (aF K) (aF K) (rI IW λi j=>.int (i^j.toNat)) oG:=ww (λ_ _ h=>Oz h) λ_ _ _=>.int
theorem Ep:R2M C (aF K) (aF K) (aF K) (rI IW λi j=>.int (i*2^j.toNat)) ur:=ww (λ_ _ h=>Oz h) λ_ _ _=>.int
theorem OD:R2M C (aF K) (aF K) (aF K) (rI (λ_ j=>0<=j) λi j=>.int (i/2^j.toNat)) zr:=ww (λ_ _ h=>ZaT h) λ_ _ _=>.int
theorem RX:R2M C (aF K) (aF K) (aF K) (rI0 λi j=>.int (Builtin.bitAnd i j)) Eo:=ut λ_ _ _=>.int
theorem RZ:R2M C (aF K) (aF K) (aF K) (rI0 λi j=>.int (Builtin.bitOr i j)) Jy:=ut λ_ _ _=>.int
theorem R4:R2M C (aF K) (aF K) (aF K) (rI0 λi j=>.bl (decide (j<i))) Jz:=ut λ_ _ _=>.bl
theorem Tf:R2M C (aF K) (aF K) (aF K) (rI0 λi j=>.bl (decide (j<=i))) Ma:=ut λ_ _ _=>.bl
theorem dz:R2M C (aF K) (aF K) (aF K) (Jv K) cR:=by
 intro F H x y a b res Q s ha hb e P;have inv:(∃ i j,a=.int i/\b=.int j)\/(∃ i j,a=.str i/\b=.str j)\/(∃ l m,a=.tup l/\b=.tup m):=by
  clear P ha hb
  cases a<;>first|exact noS e|(cases b<;>first|exact noS e|exact .inl ⟨_,_,rfl,rfl⟩|exact .inr (.inl ⟨_,_,rfl,rfl⟩)|exact .inr (.inr ⟨_,_,rfl,rfl⟩))
 rcases inv with⟨i,j,rfl,rfl⟩|⟨i,j,rfl,rfl⟩|⟨l,m,rfl,rfl⟩
 ·cases Rep.bu ha;cases Rep.bu hb;cases e;exact .inl ⟨i,j,rfl,rfl,P _ F H (Up.refl s) .int⟩
 ·cases Rep.bG ha;cases Rep.bG hb;have e:(if i.length+j.length<=sizeLine then some (Res.ok (PV.str (i++j))) else none)=some res:=e;split at e
  ·rename_i h;cases e;exact .inr (.inl ⟨i,j,rfl,rfl,h,P _ F H (Up.refl s) .str⟩)
  ·cases e
 ·have e:(if l≠[]/\l.length+m.length<=sizeLine then some (Res.ok (PV.tup (l++m))) else none)=some res:=e;split at e
  ·rename_i h;cases e;obtain⟨a1,xs,rfl,h1,r1⟩:=Rep.cD ha;obtain⟨a2,ys,rfl,h2,r2⟩:=Rep.cD hb;have hx:xs≠[]:=λz=>h.1 (by have:=r1.1;rw[z] at this;simpa using this.symm)
   refine .inr (.inr ⟨a1,a2,xs,ys,rfl,rfl,s.tup h1,s.tup h2,hx,by rw[r1.1,r2.1];exact h.2,λz=>?_,λ_ p hp=>?_⟩)
   ·subst z;have hm:m=[]:=by have:=r2.1;simpa using this.symm
    subst hm;rw[ZaM] at P;exact P _ F H (Up.refl s) ha
   ·have un:=Up.new (o:=.tup (xs++ys)) s hp;exact P _ _ _ un (.tup aK (r1.append r2).1 ((r1.append r2).up un.ff).2)
  ·cases e
theorem zA:R2M C (aF K) (aF K) (aF K) Ox pY:=by
 intro F H x y a b res Q s ha hb e P;have inv:(∃ i j,a=.int i/\b=.int j)\/(∃ z n,a=.str z/\b=.int n):=by
  clear P ha hb
  cases a<;>first|exact noS e|(cases b<;>first|exact noS e|exact .inl ⟨_,_,rfl,rfl⟩|exact .inr ⟨_,_,rfl,rfl⟩)
 rcases inv with⟨i,j,rfl,rfl⟩|⟨z,n,rfl,rfl⟩
 ·cases Rep.bu ha;cases Rep.bu hb;have e:(if Jw i j=true then some (Res.ok (PV.int (i*j))) else none)=some res:=e;split at e
  ·rename_i h;cases e;exact .inl ⟨i,j,rfl,rfl,RV h,P _ F H (Up.refl s) .int⟩
  ·cases e
 ·cases Rep.bG ha;cases Rep.bu hb;have e:(if -(2^63)<=n/\n<2^63/\z.length*n.toNat<=sizeLine then some (Res.ok (PV.str (Qu z n.toNat))) else none)=some res:=e;split at e
  ·rename_i h;cases e;exact .inr ⟨z,n,rfl,rfl,h.1,h.2.1,h.2.2,P _ F H (Up.refl s) .str⟩
  ·cases e
theorem Qv:R2M C (aF K) (aF K) (aF K) RM Hk:=by
 intro F H x y a b res Q s ha hb e P;have inv:(∃ i j,a=.int i/\b=.int j)\/(∃ i j,a=.str i/\b=.str j):=by
  clear P ha hb
  cases a<;>first|exact noS e|(cases b<;>first|exact noS e|exact .inl ⟨_,_,rfl,rfl⟩|exact .inr ⟨_,_,rfl,rfl⟩)
 rcases inv with⟨i,j,rfl,rfl⟩|⟨i,j,rfl,rfl⟩
 ·cases Rep.bu ha;cases Rep.bu hb;cases e;exact .inl ⟨i,j,rfl,rfl,P _ F H (Up.refl s) .bl⟩
 ·cases Rep.bG ha;cases Rep.bG hb;cases e;exact .inr ⟨i,j,rfl,rfl,P _ F H (Up.refl s) .bl⟩
theorem Tg:R2M C (aF K) (aF K) (aF K) RN Mf:=by
 intro F H x y a b res Q s ha hb e P;have inv:(∃ i j,a=.int i/\b=.int j)\/(∃ i j,a=.str i/\b=.str j):=by
  clear P ha hb
  cases a<;>first|exact noS e|(cases b<;>first|exact noS e|exact .inl ⟨_,_,rfl,rfl⟩|exact .inr ⟨_,_,rfl,rfl⟩)
 rcases inv with⟨i,j,rfl,rfl⟩|⟨i,j,rfl,rfl⟩
 ·cases Rep.bu ha;cases Rep.bu hb;cases e;exact .inl ⟨i,j,rfl,rfl,P _ F H (Up.refl s) .bl⟩
 ·cases Rep.bG ha;cases Rep.bG hb;cases e;exact .inr ⟨i,j,rfl,rfl,P _ F H (Up.refl s) .bl⟩
theorem JC:R2M C (aH K) (aH K) (aF K) (Qn K) sJ:=by
 intro F H x y a b res Q s ha hb e P;unfold sJ at e;split at e
 ·rename_i r h;cases e;exact⟨a,b,r,ha,hb,h,P _ F H (Up.refl s) .bl⟩
 ·cases e
theorem Th:R2M C (aH K) (aH K) (aF K) (RK K) zu:=by
 intro F H x y a b res Q s ha hb e P;unfold zu at e;split at e
 ·rename_i r h;cases e;exact⟨a,b,r,ha,hb,h,P _ F H (Up.refl s) .bl⟩
 ·cases e
theorem Ti:R2M C (aH K) (aH K) (aF K) (RL K) Hl:=by
 intro F H x y a b res Q s ha hb e P;unfold Hl at e;split at e
 ·rename_i r h;cases e
  match b,h with
  |.lst l,h=>exact .inl ⟨a,l,r,ha,.inl hb,h,P _ F H (Up.refl s) .bl⟩
  |.tup l,h=>exact .inl ⟨a,l,r,ha,.inr hb,h,P _ F H (Up.refl s) .bl⟩
  |.str j,h=>
   match a,h with
   |.str i,h=>
    cases h;exact .inr ⟨i,j,Rep.bG ha,Rep.bG hb,P _ F H (Up.refl s) .bl⟩
 ·cases e
theorem Mi:R2M C (aH K) (aH K) (aF K) (Em K) nM:=by
 intro F H x y a b res Q s ha hb e P;unfold nM at e;split at e
 ·rename_i r h;cases e
  match b,h with
  |.lst l,h=>exact .inl ⟨a,l,r,ha,.inl hb,h,P _ F H (Up.refl s) .bl⟩
  |.tup l,h=>exact .inl ⟨a,l,r,ha,.inr hb,h,P _ F H (Up.refl s) .bl⟩
  |.str j,h=>
   match a,h with
   |.str i,h=>
    cases h;exact .inr ⟨i,j,Rep.bG ha,Rep.bG hb,P _ F H (Up.refl s) .bl⟩
 ·cases e
theorem xF{xs:List V}{l:List PV}{i:Int}{p:PV}(r:bQ K F xs l)(h:atI l i=some p):∃ v,atI xs i=some v/\Rep K F v p:=by
 unfold atI at h ⊢;rw[r.1];cases e:ixN l.length i with
 |none=>rw[e] at h;cases h
 |some j=>
  rw[e] at h;exact r.get h
theorem pZ{x:Option PV}{res:Res PV}(h:ofO x=some res):∃ p,x=some p/\res=.ok p:=by
 cases x with
 |none=>cases h
 |some p=>cases h;exact⟨p,rfl,rfl⟩
theorem iG:R2M C (aF K) (aF K) (aF K) (rIx K) fZ:=by
 intro F H x y a b res Q s ha hb e P;have inv:(∃ l i,a=.lst l/\b=.int i)\/(∃ l i,a=.tup l/\b=.int i)\/(∃ z i,a=.str z/\b=.int i):=by
  clear P ha hb
  cases a<;>first|exact noS e|(cases b<;>first|exact noS e|exact .inl ⟨_,_,rfl,rfl⟩|exact .inr (.inl ⟨_,_,rfl,rfl⟩)|exact .inr (.inr ⟨_,_,rfl,rfl⟩))
 rcases inv with⟨l,i,rfl,rfl⟩|⟨l,i,rfl,rfl⟩|⟨z,i,rfl,rfl⟩
 ·cases Rep.bu hb;obtain⟨p,e1,rfl⟩:=pZ e;obtain⟨a1,xs,rfl,h1,r1⟩:=Rep.cF ha;obtain⟨v,e2,rv⟩:=xF r1 e1;exact .inl ⟨a1,xs,i,v,rfl,rfl,s.seq h1,e2,P _ F H (Up.refl s) rv⟩
 ·cases Rep.bu hb;obtain⟨p,e1,rfl⟩:=pZ e;obtain⟨a1,xs,rfl,h1,r1⟩:=Rep.cD ha;obtain⟨v,e2,rv⟩:=xF r1 e1;exact .inr (.inl ⟨a1,xs,i,v,rfl,rfl,s.tup h1,e2,P _ F H (Up.refl s) rv⟩)
 ·cases Rep.bu hb;cases Rep.bG ha;have e:(if z.length<=sizeLine then ofO ((atI z.cps.toList i).map λc=>PV.str ⟨#[c]⟩) else none)=some res:=e;split at e
  ·rename_i hz;obtain⟨p,e1,rfl⟩:=pZ e;cases e2:atI z.cps.toList i with
   |none=>rw[e2] at e1;cases e1
   |some c=>
    rw[e2] at e1;cases e1;exact .inr (.inr ⟨z,i,c,rfl,rfl,hz,e2,P _ F H (Up.refl s) .str⟩)
  ·cases e
theorem R5:R2M C (aV K) (aF K) (aF K) (rIx K) JB:=by
 intro F H x y a b res Q s ha hb e P
 match b,e with
 |.int i,e=>
  cases Rep.bu hb;obtain⟨p,e1,rfl⟩:=pZ e;obtain⟨a1,xs,rfl,h1,r1⟩:=ha;obtain⟨v,e2,rv⟩:=xF r1 e1;exact .inl ⟨a1,xs,i,v,rfl,rfl,h1,e2,P _ F H (Up.refl s) rv⟩
def Er(l m:List PV):Option (Res PV):=if l.length+m.length<=sizeLine then some (.ok (.lst (l++m))) else none
def R6(K:Frag):R2:=λx y H Q=>∃ l b xs zs,x=.ref l/\y=.ref b/\SqL K H l xs/\SqL K H b zs/\xs.length+zs.length<=sizeLine/\∀ p,H p=none->Q (.ref p) (upd H p (.lst (xs++zs)))
theorem R7:R2O K C (aV K) (aV K) (R6 K) Er:=by
 intro F H x y a b res Q s ha hb e P;unfold Er at e;split at e
 ·rename_i h;cases e;obtain⟨a1,xs,rfl,h1,r1⟩:=ha;obtain⟨a2,ys,rfl,h2,r2⟩:=hb;refine⟨a1,a2,xs,ys,rfl,rfl,h1,h2,by rw[r1.1,r2.1];exact h,λp hp=>?_⟩
  exact P p F _ (Up.Hf s hp) hp (s.free hp) ⟨_,aK,r1.append r2⟩
 ·cases e
variable{te:TE}
def MP'(K:Frag)(C:Cg)(t:TO)(f:Fn (Option Int)):Prop:=
 ∀ F H σ ρ Q r,RE K C.toCf F H σ ρ->f ρ=some r->Pr C F (λo=>∀ F' H',Up F H F' H'->Q o H') r->t σ H Q
def mPn:Fn (Option Int):=λ_=>some (.ok none)
def asInt:PV->Option (Res (Option Int))
 |.int i=>some (.ok (some i))
 |_=>none
theorem Es:MP' K C Eb mPn:=λF H σ ρ Q r R e P=>by
 cases e;exact P F H (Up.refl R.rb.sub)
theorem Et{f:Fn PV}(h:MJ K C (aF K) te f):MP' K C (Oo te) (m1 asInt f):=by
 intro F H σ ρ Q r R e P;refine h.run R e P λp v F1 H1 hk u a=>?_
 match p,hk with
 |.int i,hk=>
  cases Rep.bu a;cases hk;exact⟨i,rfl,P F1 H1 u⟩
theorem MP'.run{β:Type}{t:TO}{f:Fn (Option Int)}{σ:St}{ρ:Rho}{Q:Option Int->Hp->Prop}{ok:β->Prop}{k:Option Int->Option (Res β)}{r:Res β}(h:MP' K C t f)(R:RE K C.toCf F H σ ρ)(hb:bnd (f ρ) k=some r)(P:Pr C F ok r)
  (go:∀ o F1 H1,k o=some r->Up F H F1 H1->Q o H1):t σ H Q:=by
 rcases b8 hb with⟨z,e,rfl⟩|⟨p,e,hk⟩
 ·exact h F H σ ρ Q _ R e P
 ·exact h F H σ ρ Q _ R e λF1 H1 u=>go p F1 H1 hk u
def JD(a b:Option Int):PV->Option (Res PV)
 |.str z=>if z.length<=sizeLine then some (.ok (.str (Txt.slice z a b))) else none
 |_=>none
def JF(f:Fn PV)(lo hi:Fn (Option Int)):Fn PV:=λρ=>bnd (f ρ) λz=>bnd (lo ρ) λa=>bnd (hi ρ) λb=>JD a b z
theorem JG{f:Fn PV}{lo hi:Fn (Option Int)}{tl th:TO}(h:MJ K C (aF K) te f)(hl:MP' K C tl lo)(hh:MP' K C th hi):MJ K C (aF K) (tSl Rz te tl th) (JF f lo hi):=by
 intro F H σ ρ Q r R e P;refine h.run R e P λl v F1 H1 hk u a=>?_;refine hl.run (R.up u) hk (P.later u) λo F2 H2 hk2 u2=>?_;refine hh.run (R.up (u.trans u2)) hk2 (P.later (u.trans u2)) λo2 F3 H3 hk3 u3=>?_
 match l,hk3 with
 |.str z,hk3=>
  cases Rep.bG a;have hk3:(if z.length<=sizeLine then some (Res.ok (PV.str (Txt.slice z o o2))) else none)=some r:=hk3;split at hk3
  ·rename_i hz;cases hk3;exact⟨z,rfl,hz,P _ F3 H3 (u.trans (u2.trans u3)) .str⟩
  ·cases hk3
end
def JH(K:Frag)(tl:TE):TI:=λσ H R=>tl σ H λx H1=>(∃ a,x=.ref a/\(∃ xs,SqL K H1 a xs)/\R (Itl K a) H1)\/(∃ a,x=.ref a/\(∃ xs,SqT K H1 a xs)/\R (Itt K a) H1)\/∃ z,x=.str z/\R (Itf (sgn z) z.cps.size) H1
theorem gQ{X:Cx}{tg l:Expr}{tl:TE}(hl:PE X l tl):PI X tg l (JH X.K tl):=by
 intro pins s σ H R I h;refine thn (hl pins s σ H _ I h) ?_;rintro v s1 ⟨x,H1,I1,r1,q1⟩;have keep:∀ (o:Obj),Inv X pins σ H1 { s1 with heap:=s1.heap.push o }:=λo=>I1.kept (t':=s1.toks) λb ob e=>Zaf _ e;have fp:∀ b∈[s1.heap.objs.size],oU X pins H1 b:=λb hb=>by
  have e:b=s1.heap.objs.size:=by simpa using hb
  subst e;exact I1.t8 (Zag _) (I1.hok.fresh (Zag _))
 rcases q1 with⟨a,rfl,⟨xs,hq⟩,q⟩|⟨a,rfl,⟨xs,hq⟩,q⟩|⟨z,rfl,q⟩
 ·cases r1;obtain⟨its,rv,p,hz⟩:=I1.list hq;exact wpAny_pyIter_list p.isList ⟨_,[_],_,_,H1,rfl,keep _,GF a _,⟨_,Zax _ rfl,rfl,rfl⟩,fp,q⟩
 ·cases r1;obtain⟨its,rv,p,hz⟩:=I1.tuple hq;exact wpAny_pyIter_tuple (show s1.heap.IsTuple a its.toArray from p) ⟨_,[_],_,_,H1,rfl,keep _,Ce a _,⟨_,Zax _ rfl,rfl,rfl⟩,fp,q⟩
 ·obtain⟨t,rfl⟩:=r1;exact wpAny_pyIter_strU ⟨_,[_],_,_,H1,rfl,keep _,Jg _ z t,⟨_,Zax _ rfl,rfl,rfl⟩,fp,q⟩
section
variable{K:Frag}{C:Cg}{F H:Hp}{σ:St}{ρ:Rho}{te:TE}{tA:TA}{a:Addr}{xs:List V}{l:List PV}
def signs(z:Str):List PV:=z.cps.toList.map λc=>.str ⟨#[c]⟩
def jT:PV->Option (Res (List PV))
 |.lst l=>some (.ok l)
 |.tup l=>some (.ok l)
 |.str z=>some (.ok (signs z))
 |_=>none
theorem JK(h:SqL K F a xs)(r:bQ K F xs l):ItR K (Itl K a) F l where
 stop:=λF' H' s s'=>⟨xs,(s.trans s').seq h,by rw[r.1];exact Zag _⟩
 go:=λi F' H' hi s s'=>⟨xs,xs[i]'(by rw[r.1];exact hi),(s.trans s').seq h,by simp⟩
 yld:=λi F' H' x H'' hi s s' y=>by
  obtain⟨rfl,y⟩:=y;have e:=y xs ((s.trans s').seq h);obtain⟨p,e2,rp⟩:=r.got e;exact⟨F',p,Up.refl s',e2,rp.up s⟩
theorem Mj(h:SqT K F a xs)(r:bQ K F xs l):ItR K (Itt K a) F l where
 stop:=λF' H' s s'=>⟨xs,(s.trans s').tup h,by rw[r.1];exact Zag _⟩
 go:=λi F' H' hi s s'=>⟨xs,xs[i]'(by rw[r.1];exact hi),(s.trans s').tup h,by simp⟩
 yld:=λi F' H' x H'' hi s s' y=>by
  obtain⟨rfl,y⟩:=y;have e:=y xs ((s.trans s').tup h);obtain⟨p,e2,rp⟩:=r.got e;exact⟨F',p,Up.refl s',e2,rp.up s⟩
theorem Ml(z:Str):ItR K (Itf (sgn z) z.cps.size) F (signs z) where
 stop:=λF' H' s s'=>by simp[signs,Itf]
 go:=λi F' H' hi s s'=>by simpa[signs,Itf] using hi
 yld:=λi F' H' x H'' hi s s' y=>by
  obtain⟨rfl,rfl⟩:=y;have hi':i<z.cps.size:=by simpa[signs] using hi
  refine⟨F',.str ⟨#[z.cps.getD i 0]⟩,Up.refl s',?_,.str⟩;unfold signs;rw[Zac,ZaN,Array.getD_eq_getD_getElem?,Za8 hi'];rfl
theorem iU{f:Fn PV}(h:MJ K C (aF K) te f):MI K C (JH K te) (m1 jT f):=by
 intro F H σ ρ R' r R e P;refine h.run R e P λp v F1 H1 hk u a=>?_
 match p,hk with
 |.lst l,hk=>
  cases hk;obtain⟨b,xs,rfl,h1,r1⟩:=Rep.cF a;exact .inl ⟨b,rfl,⟨xs,u.fh.seq h1⟩,P _ F1 H1 u (JK h1 r1)⟩
 |.tup l,hk=>
  cases hk;obtain⟨b,xs,rfl,h1,r1⟩:=Rep.cD a;exact .inr (.inl ⟨b,rfl,⟨xs,u.fh.tup h1⟩,P _ F1 H1 u (Mj h1 r1)⟩)
 |.str z,hk=>
  cases hk;cases Rep.bG a;exact .inr (.inr ⟨z,rfl,P _ F1 H1 u (Ml z)⟩)
def sO(lo:Int)(n:Nat):List PV:=(List.range n).map λ(i:Nat)=>.int (lo+(i:Int))
theorem cG(lo:Int)(n:Nat):(sO lo n).length=n:=by simp[sO]
theorem Mm(lo:Int)(n:Nat):ItR K (Itr lo n) F (sO lo n) where
 stop:=λF' H' s s'=>by rw[cG];exact Zag _
 go:=λi F' H' hi s s'=>by rw[cG] at hi;exact hi
 yld:=λi F' H' x H'' hi s s' y=>by
  obtain⟨rfl,rfl⟩:=y;rw[cG] at hi;refine⟨F',.int (lo+i),Up.refl s',?_,.int⟩;unfold sO;rw[Zac,Za3 hi];rfl
def gH:List PV->Option (Res (List PV))
 |[.int j]=>if -(2^62)<=j/\j<2^62 then some (.ok (sO 0 j.toNat)) else none
 |_=>none
theorem gb{f:Fn (List PV)}(h:MA K C tA f):MI K C (Oh tA) (m1 gH f):=by
 intro F H σ ρ R' r R e P;refine h.run R e P λl xs F1 H1 hk u a=>?_;have inv:∃ j,l=[.int j]:=by
  clear P u a
  rcases l with _|⟨x,_|⟨y,l⟩⟩<;>first|exact noS hk|(cases x<;>first|exact noS hk|exact⟨_,rfl⟩)
 obtain⟨j,rfl⟩:=inv;have hk:(if -(2^62)<=j/\j<2^62 then some (Res.ok (sO 0 j.toNat)) else none)=some r:=hk;split at hk
 ·rename_i hj;cases hk;obtain⟨v,ys,rfl,r1,r2⟩:=a.eN;cases r2.jy;cases Rep.bu r1;exact⟨j,rfl,hj.1,hj.2,P _ F1 H1 u (Mm 0 j.toNat)⟩
 ·cases hk
def mq(l:List PV):List PV:=l.mapIdx λ(i:Nat) x=>.tup [.int i,x]
def uw:List PV->Option (Res (List PV))
 |[.lst l]=>some (.ok (mq l))
 |_=>none
theorem xG{f:Fn (List PV)}(h:MA K C tA f):MI K C (Ot K tA) (m1 uw f):=by
 intro F H σ ρ R' r R e P;refine h.run R e P λl xs F1 H1 hk u a=>?_;have inv:∃ m,l=[.lst m]:=by
  clear P u a
  rcases l with _|⟨x,_|⟨y,l⟩⟩<;>first|exact noS hk|(cases x<;>first|exact noS hk|exact⟨_,rfl⟩)
 obtain⟨l,rfl⟩:=inv;cases hk;obtain⟨v,ys,rfl,r1,r2⟩:=a.eN;cases r2.jy;obtain⟨b,xs,rfl,h1,r1⟩:=Rep.cF r1;have hl:(mq l).length=l.length:=by simp[mq]
 refine⟨b,rfl,⟨xs,u.fh.seq h1⟩,P _ F1 H1 u ⟨λF' H' s s'=>?_,λi F' H' hi s s'=>?_,λi F' H' x H'' hi s s' y=>?_⟩⟩
 ·exact⟨xs,(s.trans s').seq h1,by rw[hl,r1.1];exact Zag _⟩
 ·rw[hl] at hi;exact⟨xs,xs[i]'(by rw[r1.1];exact hi),(s.trans s').seq h1,by simp⟩
 ·obtain⟨p,y,hp,rfl,rfl,hy⟩:=y;have e:=hy xs ((s.trans s').seq h1);obtain⟨q,e2,rq⟩:=r1.got e;have un:=Up.new (o:=.tup [.int i,y]) s' hp;refine⟨_,.tup [.int i,q],un,?_,.tup aK rfl λj x p hx hp'=>?_⟩
  ·unfold mq;rw[List.getElem?_mapIdx,e2];rfl
  ·match j with
   |0=>simp at hx hp';subst hx hp';exact .int
   |1=>simp at hx hp';subst hx hp';exact rq.up (s.trans un.ff)
   |j+2=>simp at hx
def NoO(ρ:Rho):Prop:=∀ (j:Nat) q,ρ[j]?≠some (some (.ow q))/\ρ[j]?≠some (some (.dp q))
def Wr(T:List Nat)(tg:PV->Rho->Option Rho):Prop:=∀ x ρ ρ',tg x ρ=some ρ'->ρ'.length=ρ.length/\(∀ j,j ∉ T->ρ'[j]?=ρ[j]?)/\(NoO ρ->NoO ρ')
def WrS(T:List Nat)(tg:List PV->Rho->Option Rho):Prop:=∀ x ρ ρ',tg x ρ=some ρ'->ρ'.length=ρ.length/\(∀ j,j ∉ T->ρ'[j]?=ρ[j]?)/\(NoO ρ->NoO ρ')
theorem dC(i:Nat):Wr [i] (gN i):=λx ρ ρ' e=>by
 cases e;refine⟨by simp,λj hj=>?_,λh j q=>⟨λe=>?_,λe=>?_⟩⟩
 ·rw[Zas (by simpa using Zbp (by simpa using hj))]
 ·rcases get_set e with⟨_,e2⟩|⟨_,e2⟩
  ·cases e2
  ·exact(h j q).1 e2
 ·rcases get_set e with⟨_,e2⟩|⟨_,e2⟩
  ·cases e2
  ·exact(h j q).2 e2
theorem xH:WrS [] gsNil:=λx ρ ρ' e=>by
 cases x with
 |nil=>cases e;exact⟨rfl,λ_ _=>rfl,λh=>h⟩
 |cons p l=>cases e
theorem jU{T U:List Nat}{t:PV->Rho->Option Rho}{u:List PV->Rho->Option Rho}(h:Wr T t)(hs:WrS U u):WrS (T++U) (gsCons t u):=λx ρ ρ' e=>by
 cases x with
 |nil=>cases e
 |cons p l=>
  have e:(match t p ρ with
   |some ρ'=>u l ρ'
   |none=>none)=some ρ':=e
  split at e
  ·rename_i ρ1 h1;obtain⟨a1,a2,a3⟩:=h p ρ ρ1 h1;obtain⟨b1,b2,b3⟩:=hs l ρ1 ρ' e;exact⟨b1.trans a1,λj hj=>(b2 j λz=>hj (Zaq _ z)).trans (a2 j λz=>hj (List.mem_append_left _ z)),λz=>b3 (a3 z)⟩
  ·cases e
theorem CG{n:Nat}{U:List Nat}{u:List PV->Rho->Option Rho}(hs:WrS U u):Wr U (gT n u):=λx ρ ρ' e=>by
 unfold gT at e;split at e
 ·split at e
  ·exact hs _ ρ ρ' e
  ·cases e
 ·cases e
def shOnly:Option Sl->Option Sl
 |some (.sh p)=>some (.sh p)
 |_=>none
def frR(fr:List (Option Nat))(ρ:Rho):Rho:=fr.map λo=>match o with
 |some i=>match ρ[i]? with
  |some v=>shOnly v
  |none=>none
 |none=>none
def dB(tg:PV->Rho->Option Rho)(tst:Fn Bool)(el:Fn PV)(ρb:Rho):List PV->Option (Res (List PV))
 |[]=>some (.ok [])
 |x::xs=>match tg x ρb with
  |none=>none
  |some ρ1=>bnd (tst ρ1) λb=>if b=true then bnd (el ρ1) λp=>bnd (dB tg tst el ρb xs) λr=>some (.ok (p::r)) else dB tg tst el ρb xs
def gf(it:Fn (List PV))(fr:List (Option Nat))(tg:PV->Rho->Option Rho)(tst:Fn Bool)(el:Fn PV):Fn PV:=λρ=>bnd (it ρ) λl=>
 if l.length<=sizeLine then bnd (dB tg tst el (frR fr ρ) l) λr=>some (.ok (.lst r)) else none
def jw:Fn Bool:=λ_=>some (.ok true)
theorem jn:MT K C Rx jw:=λF H σ ρ Q r R e P=>by
 cases e;exact P F H (Up.refl R.rb.sub)
theorem RE.block(R:RE K C.toCf F H σ ρ)(fr:List (Option Nat)):RE K C.toCf F H (frσ fr σ) (frR fr ρ)/\NoO (frR fr ρ):=by
 have nd:∀ (j:Nat) q,(frR fr ρ)[j]?≠some (some (.dp q)):=λj q e=>by
  unfold frR at e;rw[Zac] at e;cases e1:fr[j]? with
  |none=>rw[e1] at e;cases e
  |some o=>
   rw[e1] at e;cases o with
   |none=>cases e
   |some i=>
    simp only[ZbL,Option.some.injEq] at e;split at e
    ·rename_i v hv;unfold shOnly at e;split at e<;>cases e
    ·cases e
 have no:∀ (j:Nat) q,(frR fr ρ)[j]?≠some (some (.ow q)):=λj q e=>by
  unfold frR at e;rw[Zac] at e;cases e1:fr[j]? with
  |none=>rw[e1] at e;cases e
  |some o=>
   rw[e1] at e;cases o with
   |none=>cases e
   |some i=>
    simp only[ZbL,Option.some.injEq] at e;split at e
    ·rename_i v hv;unfold shOnly at e;split at e<;>cases e
    ·cases e
 refine⟨⟨R.rb,by unfold frσ frR;simp,λj p e=>?_,λj p e=>absurd e (no j p),λi j p q a e=>absurd e (no i p),_,RD.no nd⟩,λj q=>⟨no j q,nd j q⟩⟩
 unfold frR at e;rw[Zac] at e;unfold frσ;rw[Zac];cases e1:fr[j]? with
 |none=>rw[e1] at e;cases e
 |some o=>
  rw[e1] at e;cases o with
  |none=>cases e
  |some i=>
   simp only[ZbL,Option.some.injEq] at e ⊢;split at e
   ·rename_i v hv;unfold shOnly at e;split at e
    ·cases e;obtain⟨w,e2,e3⟩:=R.sh i _ hv;exact⟨w,by rw[e2],e3⟩
    ·cases e
   ·cases e
theorem RE.other(R:RE K C.toCf F H σ ρ){D:Addr}{o:HO}(hf:F D=none)(h0:C.H0 D=none)(no:NoO ρ):RE K C.toCf F (upd H D o) σ ρ where
 rb:=⟨λb u q=>by rw[aq (aY q hf)];exact R.rb.sub b u q,λb u q n=>by rw[aq (aY q h0)];exact R.rb.keep b u q n,R.rb.new,λb hb=>⟨by
  have:=(R.rb.ios b hb);by_cases hbD:b=D
  ·subst hbD;exact absurd h0 this.2
  ·rw[aq hbD];exact this.1,(R.rb.ios b hb).2⟩⟩
 len:=R.len
 sh:=R.sh
 ow:=λi p e=>absurd e (no i p).1
 dis:=λi j p q a e=>absurd e (no i p).1
 dd:=⟨_,RD.no λi p=>(no i p).2⟩
theorem RE.weak{ρ':Rho}(R:RE K C.toCf F H σ ρ')(hl:ρ.length=ρ'.length)(h:∀ (j:Nat) s,ρ[j]?=some (some s)->ρ'[j]?=some (some s)):RE K C.toCf F H σ ρ where
 rb:=R.rb
 len:=by rw[R.len,hl]
 sh:=λi p e=>R.sh i p (h i _ e)
 ow:=λi p e=>R.ow i p (h i _ e)
 dis:=λi j p q a e e'=>R.dis i j p q a (h i _ e) (h j _ e')
 dd:=let⟨P,d⟩:=R.dd;⟨P,d.own,d.dis,λi j q b z e=>d.ow i j q b z (h j _ e),λi p e=>d.dp i p (h i _ e)⟩
structure ItH(K:Frag)(J:It)(F H:Hp)(l:List PV):Prop where
 stop:∀ F' H',aR F F'->aR F' H'->aR H H'->J.stop l.length H'
 go:∀ i F' H',i<l.length->aR F F'->aR F' H'->aR H H'->J.go i H'
 yld:∀ i F' H' x H'',i<l.length->aR F F'->aR F' H'->aR H H'->J.yld i H' x H''->∃ F'' p,Up F' H' F'' H''/\l[i]?=some p/\Rep K F'' x p
def MIH(K:Frag)(C:Cg)(wi:TI)(f:Fn (List PV)):Prop:=
 ∀ F H σ ρ R' r,RE K C.toCf F H σ ρ->f ρ=some r->Pr C F (λl=>∀ J F' H',Up F H F' H'->ItH K J F' H' l->R' J H') r->wi σ H R'
theorem MI.h{wi:TI}{f:Fn (List PV)}(h:MI K C wi f):MIH K C wi f:=λF H σ ρ R' r R e P=>
 h F H σ ρ R' r R e (Pr.mono P (aR.refl _) λl q J F' H' u x=>q J F' H' u ⟨λa b c d _=>x.stop a b c d,λi a b hi c d _=>x.go i a b hi c d,λi a b y z hi c d _=>x.yld i a b y z hi c d⟩)
theorem JL(h:SqL K H a xs)(r:bQ K F xs l):ItH K (Itl K a) F H l where
 stop:=λF' H' s s' t=>⟨xs,t.seq h,by rw[r.1];exact Zag _⟩
 go:=λi F' H' hi s s' t=>⟨xs,xs[i]'(by rw[r.1];exact hi),t.seq h,by simp⟩
 yld:=λi F' H' x H'' hi s s' t y=>by
  obtain⟨rfl,y⟩:=y;have e:=y xs (t.seq h);obtain⟨p,e2,rp⟩:=r.got e;exact⟨F',p,Up.refl s',e2,rp.up s⟩
theorem JM{f:Fn (List PV)}(h:MJ K C (aV K) te f):MIH K C (JH K te) f:=by
 intro F H σ ρ R' r R e P;refine h F H σ ρ _ r R e (Pr.mono P (aR.refl _) λl q v F1 H1 u x=>?_);obtain⟨b,xs,rfl,hs,hr⟩:=x;exact .inl ⟨b,rfl,⟨xs,hs⟩,q _ F1 H1 u (JL hs hr)⟩
theorem rB{α β γ:Type}{x:Option (Res α)}{f:α->Option (Res β)}{g:β->Option (Res γ)}:bnd (bnd x f) g=bnd x λa=>bnd (f a) g:=by
 match x with
 |some (.ok a)=>rfl
 |some (.ex z)=>rfl
 |none=>rfl
theorem zB{wi:TI}{it:Fn (List PV)}{fr:List (Option Nat)}{gt:TG}{tg:PV->Rho->Option Rho}{T:List Nat}{tc:TT}{tst:Fn Bool}{el:Fn PV}(hi:MIH K C wi it)(hg:MG K C gt tg)(hT:Wr T tg)(ht:MT K C tc tst)(he:MJ K C (aF K) te el)
  (hfr:T.all (λj=>fr[j]?==some none)=true:=by rfl):MO K C (ug wi fr gt tc te) (gf it fr tg tst el):=by
 intro F H σ ρ Q r R e P;rcases b8 e with⟨z,e1,rfl⟩|⟨l,e1,hk⟩
 ·exact hi F H σ ρ _ _ R e1 P
 split at hk
 case isFalse=>cases hk
 rename_i hlen;refine hi F H σ ρ _ _ R e1 λJ F1 H1 u hJ D hD=>?_;have R1:=R.up u;obtain⟨Rb,no⟩:=R1.block fr;have hD0:C.H0 D=none:=R1.rb.um hD;have hFD:F1 D=none:=u.fh.free hD;have hρ:∀ (j:Nat),j∈T->(frR fr ρ)[j]?=some none:=λj hj=>by
  have:=Zbd.mp hfr j hj;unfold frR;rw[Zac,show fr[j]?=some none by simpa using this]
  rfl
 refine⟨λi m σ' H'=>∃ F' ys acc,m=l.length-i/\i<=l.length/\aR F1 F'/\(∀ b o,F' b=some o->F1 b=some o\/Frz H1 b o)/\aR H1 H'/\H' D=some (.lst ys)/\F' D=none/\bQ K F' ys acc/\acc.length<=i /\
   RE K C.toCf F' H' σ' (frR fr ρ)/\bnd (dB tg tst el (frR fr ρ) (l.drop i)) (λr=>some (.ok (.lst (acc++r))))=some r,
  ⟨l.length,F1,[],[],by simp,Zbb _,aR.refl _,λ_ _ q=>.inl q,eG hD,aK,hFD,.nil,Zag _,Rb.other hFD hD0 no,by rw[Zbe];exact hk⟩,?_⟩
 rintro i m σ' H' ⟨F',ys,acc,rfl,hil,s1,fr1,sH,eD,nD,ra,hacc,R',e'⟩;by_cases hlt:i<l.length
 case neg=>
  have ei:i=l.length:=by omega
  subst ei;rw[List.drop_length] at e';have e':some (Res.ok (PV.lst (acc++[])))=some r:=e';rw[ZaM] at e';cases e';exact .inl ⟨hJ.stop F' H' s1 R'.rb.sub sH,P D F' H' (u.trans ⟨s1,sH,fr1,R'.rb.sub⟩) (u.hh.free hD) nD ⟨ys,eD,ra⟩⟩
 refine .inr ⟨hJ.go i F' H' hlt s1 R'.rb.sub sH,λσ2 H2=>∃ F2 ys acc,aR F1 F2/\(∀ b o,F2 b=some o->F1 b=some o\/Frz H1 b o)/\aR H1 H2/\H2 D=some (.lst ys)/\F2 D=none/\bQ K F2 ys acc/\acc.length<=i+1 /\
   RE K C.toCf F2 H2 σ2 (frR fr ρ)/\bnd (dB tg tst el (frR fr ρ) (l.drop (i+1))) (λr=>some (.ok (.lst (acc++r))))=some r,
  λσ2 H2 ⟨F2,ys,acc,z⟩=>⟨l.length-(i+1),by omega,F2,ys,acc,rfl,hlt,z⟩,λx H'' y=>?_⟩
 obtain⟨F'',p,u2,ep,rx⟩:=hJ.yld i F' H' x H'' hlt s1 R'.rb.sub sH y;have ed:l.drop i=p::l.drop (i+1):=by
  rw[ZaR hlt];rw[Zaa hlt] at ep;rw[Zad ep]
 rw[ed,dB] at e';split at e'
 ·cases e'
 rename_i ρ1 h1;obtain⟨w1,w2,w3⟩:=hT p _ ρ1 h1;have no1:=w3 no;have weak:∀ (j:Nat) s,(frR fr ρ)[j]?=some (some s)->ρ1[j]?=some (some s):=λj s ej=>by
  rw[w2 j λz=>by rw[hρ j z] at ej;cases ej];exact ej
 refine hg F'' H'' σ' (frR fr ρ) x p ρ1 _ (R'.up u2) rx h1 λσ1 R1'=>?_;have stay:∀ {F3 H3:Hp},Up F' H' F3 H3->aR F1 F3/\(∀ b o,F3 b=some o->F1 b=some o\/Frz H1 b o)/\aR H1 H3/\H3 D=some (.lst ys)/\F3 D=none/\bQ K F3 ys acc:=λ{F3 H3} u3=>by
  refine⟨s1.trans u3.ff,λb o q=>?_,sH.trans u3.hh,u3.hh _ _ eD,?_,ra.up u3.ff⟩
  ·rcases u3.fr b o q with z|z
   ·exact fr1 b o z
   ·exact .inr (z.imp (λz=>sH.free z) id)
  ·cases q:F3 D with
   |none=>rfl
   |some o=>
    rcases u3.fr D o q with z|z|⟨ys,z⟩
    ·rw[nD] at z;cases z
    ·rw[eD] at z;cases z
    ·subst z;have w:=u3.fh _ _ q;rw[u3.hh _ _ eD] at w;cases w
 have Pl:∀ {F3 H3:Hp},Up F' H' F3 H3->∀ {z:PV},r=.ex z->PX C F3 z:=λ{F3 H3} u3 {z} ez=>by
  subst ez;exact PX.up P (u.ff.trans (s1.trans u3.ff))
 rw[rB] at e';rcases b8 e' with⟨z',e4,ez⟩|⟨b,e4,e5⟩
 ·exact ht F'' H'' σ1 ρ1 _ _ R1' e4 (Pl u2 ez)
 refine ht F'' H'' σ1 ρ1 _ _ R1' e4 λF3 H3 u3=>?_;have u23:=u2.trans u3;cases b with
 |false=>
  rw[Zai (by decide)] at e5 ⊢
  obtain⟨a1,a2,a3,a4,a5,a6⟩:=stay u23;exact⟨F3,ys,acc,a1,a2,a3,a4,a5,a6,by omega,(R1'.up u3).weak w1.symm weak,e5⟩
 |true=>
  rw[Zah rfl] at e5 ⊢;rw[rB] at e5;rcases b8 e5 with⟨z',e6,ez⟩|⟨q,e6,e7⟩
  ·exact he F3 H3 σ1 ρ1 _ _ (R1'.up u3) e6 (Pl u23 ez)
  refine he F3 H3 σ1 ρ1 _ _ (R1'.up u3) e6 λv F4 H4 u4 rv=>?_;have u24:=u23.trans u4;obtain⟨a1,a2,a3,a4,a5,a6⟩:=stay u24;refine⟨ys,a4,by rw[a6.1];omega,F4,ys++[v],acc++[q],a1,a2,qY hD a3,aK,a5,a6.snoc rv,by simp;omega,((R1'.up (u3.trans u4)).other a5 hD0 no1).weak w1.symm weak,?_⟩
  rw[rB] at e7;rw[<-e7];congr 1
  funext rr
  show some (Res.ok (PV.lst (acc++[q]++rr)))=some (Res.ok (PV.lst (acc++q::rr)))
  rw[Zar];rfl
theorem gh{wi:TI}{it:Fn (List PV)}{fr:List (Option Nat)}{gt:TG}{tg:PV->Rho->Option Rho}{T:List Nat}{tc:TT}{tst:Fn Bool}{el:Fn PV}(hi:MI K C wi it)(hg:MG K C gt tg)(hT:Wr T tg)(ht:MT K C tc tst)(he:MJ K C (aF K) te el)
  (hfr:T.all (λj=>fr[j]?==some none)=true:=by rfl):MO K C (ug wi fr gt tc te) (gf it fr tg tst el):=zB hi.h hg hT ht he hfr
end
def tyN:PV->Option String
 |.non=>some "NoneType"
 |.bl _=>some "bool"
 |.int _=>some "int"
 |.str _=>some "str"
 |.tup _=>some "tuple"
 |.lst _=>some "list"
 |.dk _=>some "dict"
 |.dt _=>some "dict"
 |_=>none
def Tj(t T:String):Option Bool:=
 if t=T then some true else
 if T="int" then some (t=="bool") else
 if T="bool"\/T="str"\/T="tuple"\/T="list"\/T="dict" then some false else none
def isI(p:PV)(T:String):Option Bool:=match tyN p with
 |some t=>Tj t T
 |none=>none
section
variable{K:Frag}{C:Cg}{α γ:Type}{A:Rel α}{D:Rel γ}{ta:TE}{f:Fn α}{rr:List V->Hp->VK->Prop}
def R1M(C:Cg)(A:Rel α)(D:Rel γ)(rr:List V->Hp->VK->Prop)(op:α->Option (Res γ)):Prop:=
 ∀ F H x a res Q,aR F H->A F H x a->op a=some res->Pr C F (λc=>∀ v F' H',Up F H F' H'->D F' H' v c->Q v H') res->rr [x] H Q
theorem dN{op:α->Option (Res γ)}(rule:R1M C A D rr op)(ha:MJ K C A ta f):MJ K C D (tCB rr (ud ta yR)) (m1 op f):=by
 intro F H σ ρ Q r R e P;refine ha.run R e P λp v F1 H1 hk u a=>?_;exact rule F1 H1 v p r Q u.fh a hk (P.later u)
def R1O(K:Frag)(C:Cg)(A:Rel α)(rr:List V->Hp->VK->Prop)(op:α->Option (Res PV)):Prop:=
 ∀ F H x a res Q,aR F H->A F H x a->op a=some res->Pr C F (λp=>∀ a F' H',Up F H F' H'->H a=none->F' a=none->Own K F' H' a p->Q (.ref a) H') res->rr [x] H Q
theorem xJ{op:α->Option (Res PV)}(rule:R1O K C A rr op)(ha:MJ K C A ta f):MO K C (tCB rr (ud ta yR)) (m1 op f):=by
 intro F H σ ρ Q r R e P;refine ha.run R e P λp v F1 H1 hk u a=>?_;exact rule F1 H1 v p r Q u.fh a hk (P.Cw u)
def ir:PV->Option (Res PV)
 |.str z=>if z.length<=sizeLine then some (.ok (.int z.length)) else none
 |.lst l=>some (.ok (.int l.length))
 |.tup l=>some (.ok (.int l.length))
 |_=>none
theorem jV:R1M C (aH K) (aF K) (λxs H Q=>∃ x n,xs=[x]/\Qc K x H n/\Q (.int n) H) ir:=by
 intro F H x a res Q s ha e P
 match a,e with
 |.str z,e=>
  cases Rep.bG ha;have e:(if z.length<=sizeLine then some (Res.ok (PV.int z.length)) else none)=some res:=e;split at e
  ·rename_i hz;cases e;exact⟨_,_,rfl,⟨hz,rfl⟩,P _ F H (Up.refl s) .int⟩
  ·cases e
 |.lst l,e=>
  cases e;obtain⟨b,xs,rfl,h1,r1⟩:=Rep.cF ha;rw[<-r1.1] at P;exact⟨_,_,rfl,.inl ⟨xs,h1,rfl⟩,P _ F H (Up.refl s) .int⟩
 |.tup l,e=>
  cases e;obtain⟨b,xs,rfl,h1,r1⟩:=Rep.cD ha;rw[<-r1.1] at P;exact⟨_,_,rfl,.inr ⟨xs,h1,rfl⟩,P _ F H (Up.refl s) .int⟩
def Eu:PV->Option (Res PV)
 |.int i=>some (.ok (.int (if i<0 then -i else i)))
 |_=>none
theorem OJ:R1M C (aF K) (aF K) (λxs H Q=>∃ i,xs=[.int i]/\Q (.int (if i<0 then -i else i)) H) Eu:=by
 intro F H x a res Q s ha e P
 match a,e with
 |.int i,e=>
  cases Rep.bu ha;cases e;exact⟨i,rfl,P _ F H (Up.refl s) .int⟩
def Ew(l:List PV):Option (Res PV):=some (.ok (.tup l))
theorem O1:R1M C (aV K) (aF K) (λxs H Q=>∃ p ys,xs=[.ref p]/\((SqL K H p ys/\∀ l,H l=none->Q (.ref l) (upd H l (.tup ys)))\/(SqT K H p ys/\Q (.ref p) H))) Ew:=by
 intro F H x a res Q s ha e P;cases e;obtain⟨b,xs,rfl,h1,r1⟩:=ha;refine⟨b,xs,rfl,.inl ⟨h1,λl hl=>?_⟩⟩;have un:=Up.new (o:=.tup xs) s hl;exact P _ _ _ un (.tup aK r1.1 (r1.up un.ff).2)
def p6(f:Fn PV):Fn (List PV):=λρ=>bnd (f ρ) rQ
def ux(i:Nat):Fn (List PV):=λρ=>bnd (mVL i ρ) rQ
def R8(i:Nat)(f:Sn):Sn:=λρ=>f (Cy i ρ)
end
noncomputable abbrev XR0:Hp->Value->Option Addr->PV->Prop:=λ_ _ _ _=>False
noncomputable abbrev C0(io:Addr->Prop)(H0 F0:Hp):Cg:=⟨⟨io,True,H0,F0,E0⟩,XR0⟩
def startR(ps:List PV)(k:Nat):Rho:=ps.map (λp=>some (.sh p))++List.replicate k none
def fin:Option Out->Option (Res PV)
 |some (.nx _)=>some (.ok .non)
 |some (.rt p)=>some (.ok p)
 |some (.ex z)=>some (.ex z)
 |_=>none
def p7:Option Out->Option (Res PV)
 |some (.ro p)=>some (.ok p)
 |some (.ex z)=>some (.ex z)
 |_=>none
section
variable{K:Frag}{XR:Hp->Value->Option Addr->PV->Prop}{N:List Str}{vs:List V}{H:Hp}{Q:VK}{E:XK}{t:TS}{b:Sn}{m:List PV->Option (Res PV)}
theorem jo{E:XK}{F:Hp}{ps:List PV}{n:Nat}(s:aR F H)(r:bQ K F vs ps)(hN:N.length=vs.length+n):RE K ⟨λ_=>False,True,H,F,E⟩ F H (start N vs) (startR ps n) where
 rb:=⟨s,λ_ _ h _=>h,λ_ _ h=>.inl h,λ_ h=>h.elim⟩
 len:=by unfold start startR;rw[List.length_append,List.length_append,List.length_map,List.length_map,List.length_replicate,List.length_replicate,r.1,hN];have:=r.1;lia
 sh:=λi p e=>by
  unfold startR at e;unfold start;by_cases hi:i<ps.length
  ·rw[Zav (by simpa using hi),Zac] at e
   rw[Zav (by rw[List.length_map,r.1];exact hi),Zac]
   cases h:ps[i]? with
   |none=>rw[h] at e;cases e
   |some q=>
    rw[h] at e;cases e;obtain⟨x,hx,rx⟩:=r.get h;exact⟨x,by rw[hx];rfl,rx⟩
  ·rw[Zaw (by simpa using hi),Zbq] at e
   split at e<;>cases e
 ow:=λi p e=>by
  exfalso;unfold startR at e;by_cases hi:i<ps.length
  ·rw[Zav (by simpa using hi),Zac] at e
   cases h:ps[i]? with
   |none=>rw[h] at e;cases e
   |some q=>rw[h] at e;cases e
  ·rw[Zaw (by simpa using hi),Zbq] at e
   split at e<;>cases e
 dd:=⟨_,RD.no λi p e=>by
  unfold startR at e;by_cases hi:i<ps.length
  ·rw[Zav (by simpa using hi),Zac] at e
   cases h:ps[i]? with
   |none=>rw[h] at e;cases e
   |some q=>rw[h] at e;cases e
  ·rw[Zaw (by simpa using hi),Zbq] at e
   split at e<;>cases e⟩
 dis:=λi j p q a e=>by
  exfalso;unfold startR at e;by_cases hi:i<ps.length
  ·rw[Zav (by simpa using hi),Zac] at e
   cases h:ps[i]? with
   |none=>rw[h] at e;cases e
   |some q=>rw[h] at e;cases e
  ·rw[Zaw (by simpa using hi),Zbq] at e
   split at e<;>cases e
theorem dD{k n:Nat}(hk:N.length=k+n)(hm:∀ ps r,m ps=some r->ps.length=k/\fin (b (startR ps n))=some r)(h:spM K XR0 m vs H Q E)(hS:∀ (io:Addr->Prop) (H0 F0:Hp),(∀ a,¬io a)->MS K (C0 io H0 F0) t b) :
  t { nx:=λ_ H'=>Q .non H',rt:=Q } (start N vs) H:=by
 obtain⟨ps,F,r,s,rp,e,P⟩:=h;obtain⟨hl,e⟩:=hm ps r e;have R:=jo (E:=E0) (N:=N) (n:=n) s rp (by rw[rp.1,hl];exact hk)
 have up:∀ {F' H':Hp},aR F F'->RB ⟨λ_=>False,True,H,F,E0⟩ F' H'->Up F H F' H':=λs' rb=>⟨s',λc o q=>rb.keep c o q id,rb.new,rb.sub⟩;have M:=hS (λ_=>False) H F (λ_ h=>h);cases ho:b (startR ps n) with
 |none=>rw[ho] at e;cases e
 |some o=>
  rw[ho] at e;refine M F H _ _ _ o R ho ?_;cases o with
  |nx ρ=>cases e;exact λF' H' σ s' R'=>P .non F' H' (up s' R'.rb) .non
  |rt p=>cases e;exact λv F' H' s' rb rv=>P v F' H' (up s' rb) rv
  |ex z=>exact λ_ _ _ _ _ _ x=>x.elim
  |ro p=>cases e
  |rd p=>cases e
  |bk ρ=>cases e
  |ct ρ=>cases e
theorem sY{k n:Nat}(hk:N.length=k+n)(hm:∀ ps r,m ps=some r->ps.length=k/\p7 (b (startR ps n))=some r)(h:spO K XR0 m vs H Q E)(hS:∀ (io:Addr->Prop) (H0 F0:Hp),(∀ a,¬io a)->MS K (C0 io H0 F0) t b) :
  t { nx:=λ_ H'=>Q .non H',rt:=Q } (start N vs) H:=by
 obtain⟨ps,F,r,s,rp,e,P⟩:=h;obtain⟨hl,e⟩:=hm ps r e;have R:=jo (E:=E0) (N:=N) (n:=n) s rp (by rw[rp.1,hl];exact hk)
 have up:∀ {F' H':Hp},aR F F'->RB ⟨λ_=>False,True,H,F,E0⟩ F' H'->Up F H F' H':=λs' rb=>⟨s',λc o q=>rb.keep c o q id,rb.new,rb.sub⟩;have M:=hS (λ_=>False) H F (λ_ h=>h);cases ho:b (startR ps n) with
 |none=>rw[ho] at e;cases e
 |some o=>
  rw[ho] at e;refine M F H _ _ _ o R ho ?_;cases o with
  |ro p=>cases e;exact λa F' H' s' rb w n1 n2=>P a F' H' (up s' rb) n2 n1 w
  |ex z=>exact λ_ _ _ _ _ _ x=>x.elim
  |nx ρ=>cases e
  |rt p=>cases e
  |rd p=>cases e
  |bk ρ=>cases e
  |ct ρ=>cases e
theorem dq(h:spM K XR m vs H Q E){k:Nat}(hm:∀ ps r,m ps=some r->ps.length=k):vs.length=k:=by
 obtain⟨ps,F,r,s,rp,e,P⟩:=h;rw[rp.1];exact hm ps r e
theorem km(h:spO K XR m vs H Q E){k:Nat}(hm:∀ ps r,m ps=some r->ps.length=k):vs.length=k:=by
 obtain⟨ps,F,r,s,rp,e,P⟩:=h;rw[rp.1];exact hm ps r e
end
section
variable{X:Cx}{k:Nat}{N:List Str}{scope:Scope}{cl:List (Str×Addr)}{C:Addr}{s2:Shared}{H2:Hp}{fp:List Addr}
theorem Ex:IxR (X.comp N scope cl C s2 H2 fp) (rIx X.K):=cL
theorem JN:OpR (X.comp N scope cl C s2 H2 fp) (binaryOp .Add) (Jv X.K):=bH
theorem Mp(hr:dH k X.A):OpR (X.comp N scope cl C s2 H2 fp) (compareOp .Eq) (Qn X.K):=uq hr
end
def R9(j:Nat):Option Out->Option (Res PV)
 |some (.nx ρ)=>match ownAt j ρ with
  |some p=>some (.ok p)
  |none=>none
 |_=>none
section
variable{K:Frag}{C:Cg}
def CJ:Sn:=λ_=>none
theorem JP:MS K C Iu CJ:=λ_ _ _ _ _ _ _ e _=>nomatch e
end
theorem uy:∀ {ns:List Int}{us:List Value},Vals (ns.map V.int) us->IntsAre us ns
 |[],us,r=>by rw[List.map_nil] at r;cases r;exact .nil
 |n::ns,us,r=>by
  rw[Zal] at r;cases r with
  |cons r1 r2=>
   obtain⟨t,e⟩:=r1;subst e;exact .cons n t (uy r2)
section
def Sd(G:List Int->Int)(K:Frag):List V->Hp->VK->Prop:=λxs H Q=>∃ (p:Addr) (ns:List Int),xs=[.ref p]/\SqL K H p (ns.map V.int)/\ns≠[]/\Q (.int (G ns)) H
end
def fC:List PV->Option (List Int)
 |[]=>some []
 |.int n::l=>(fC l).map (n::·)
 |_=>none
theorem rC{K:Frag}{F:Hp}:∀ {l:List PV}{ns:List Int}{xs:List V},fC l=some ns->bQ K F xs l->xs=ns.map V.int
 |[],ns,xs,h,r=>by
  cases h;exact List.length_eq_zero_iff.mp (by simpa using r.1)
 |.int n::l,ns,xs,h,r=>by
  cases hl:fC l with
  |none=>simp only[fC,hl] at h;cases h
  |some ms=>
   simp only[fC,hl] at h;cases h;obtain⟨v,ys,rfl,r1,r2⟩:=r.eN;cases Rep.bu r1;rw[rC hl r2];rfl
def oZ(G:List Int->Int)(l:List PV):Option (Res PV):=match fC l with
 |some (n::ns)=>some (.ok (.int (G (n::ns))))
 |_=>none
theorem JQ{K:Frag}{C:Cg}{G:List Int->Int}:R1M C (aV K) (aF K) (Sd G K) (oZ G):=by
 intro F H x a res Q s ha e P;unfold oZ at e;split at e
 ·rename_i n ns hb;cases e;obtain⟨b,xs,rfl,h1,r1⟩:=ha;rw[rC hb r1] at h1;exact⟨b,n::ns,rfl,h1,by simp,P _ F H (Up.refl s) .int⟩
 ·cases e
section
def Ey:Fn PV:=λ_=>some (.ok (.dk []))
end
theorem uz:typeLookup (.type "list") "keys"=pure none:=am_miss_of_fast (by decide +kernel)
theorem sS:typeLookup (.type "tuple") "keys"=pure none:=am_miss_of_fast (by decide +kernel)
theorem gj:entryFor table "dict.update.loop"=some Builtin.«dict.update.loop»:=entryFor_of_tree (by kernel_rfl)
theorem bY:plainId "dict.update.loop"=true:=by decide +kernel
section
variable{prog:Program}{w:World}{A:Around}{E:Value->Shared->Prop}{s:Shared}{a:Addr}{o:Obj}{xs:Array Value}{k:Nat}{name:Str}{Q:Option Value->Shared->Prop}
theorem o7(hx:s.heap.get? a=some o)(hc:o.cls=.type "list")(hdat:o.data=.seq xs k)(hd:o.dict=none)(hmiss:typeLookup (.type "list") name=pure none)(hname:(["__module__","__name__","__qualname__","__doc__","__annotations__"]:List Str).contains name=false)(hA:A.handled=none)
  (h:∀ h' tk,(∀ b ob,s.heap.get? b=some ob->h'.get? b=some ob)->Q none { s with heap:=h',toks:=tk })(hsz:name.length+100<=sizeLine:=by size_fits) :
  wpAny (model prog w) A (getAttr? (.ref a) name) Q E s:=by
 obtain⟨c,dct,dat,sl⟩:=o;simp only at hc hdat hd;subst hc hdat hd;obtain⟨hp,g,d,tk,os⟩:=s;have hT:∀ tk',(⟨hp,g,d,tk',os⟩:Shared).TypeIs (.ref a) "list":=λ_=>⟨_,hx,rfl⟩;have f1:=sub_AttributeError;have f3:=F.slot_list_getattribute.lookup;have f4:=F.slot_list_getattribute.bind (.ref a);have f5:=am_list_getattr_none;unfold getAttr? getAttrBy? getAttrBy;repeat (any_goals (first|assumption|exact hT _|((with_reducible show wpAny _ _ (call (Value.builtin "list.__getattribute__") _ _) _ _ _);refine call_meets F.slot_list_getattribute (hT _) am_entry_list_getattribute (F.args_list_getattribute_2 _ _) (meets_getattribute_miss_list a xs k sl name _ hmiss hname hsz) ⟨hx,hA,λh' tk' e hx'=>?_⟩)|wp_step))
 obtain⟨t',u',he⟩:=hx'.there;show wpAny _ _ (getattributeRaised _ _ _ _ _ _ _) _ _ _
 unfold getattributeRaised;repeat (any_goals (first|assumption|wp_step))
 exact h _ _ hx'.keeps
theorem ou(hx:s.heap.get? a=some o)(hc:o.cls=.type "tuple")(hdat:o.data=.seq xs k)(hd:o.dict=none)(hmiss:typeLookup (.type "tuple") name=pure none)(hname:(["__module__","__name__","__qualname__","__doc__","__annotations__"]:List Str).contains name=false)(hA:A.handled=none)
  (h:∀ h' tk,(∀ b ob,s.heap.get? b=some ob->h'.get? b=some ob)->Q none { s with heap:=h',toks:=tk })(hsz:name.length+100<=sizeLine:=by size_fits) :
  wpAny (model prog w) A (getAttr? (.ref a) name) Q E s:=by
 obtain⟨c,dct,dat,sl⟩:=o;simp only at hc hdat hd;subst hc hdat hd;obtain⟨hp,g,d,tk,os⟩:=s;have hT:∀ tk',(⟨hp,g,d,tk',os⟩:Shared).TypeIs (.ref a) "tuple":=λ_=>⟨_,hx,rfl⟩;have f1:=sub_AttributeError;have f3:=F.slot_tuple_getattribute.lookup;have f4:=F.slot_tuple_getattribute.bind (.ref a);have f5:=am_tuple_getattr_none;unfold getAttr? getAttrBy? getAttrBy;repeat (any_goals (first|assumption|exact hT _|((with_reducible show wpAny _ _ (call (Value.builtin "tuple.__getattribute__") _ _) _ _ _);refine call_meets F.slot_tuple_getattribute (hT _) am_entry_tuple_getattribute (F.args_tuple_getattribute_2 _ _) (meets_getattribute_miss_tuple a xs k sl name _ hmiss hname hsz) ⟨hx,hA,λh' tk' e hx'=>?_⟩)|wp_step))
 obtain⟨t',u',he⟩:=hx'.there;show wpAny _ _ (getattributeRaised _ _ _ _ _ _ _) _ _ _
 unfold getattributeRaised;repeat (any_goals (first|assumption|wp_step))
 exact h _ _ hx'.keeps
end
section
variable{X:Cx}{pins:List (Addr×Obj)}{σ:St}{H H':Hp}{s:Shared}{d:Addr}{y v:V}{u r:Value}{A:Around}{E:Value->Shared->Prop}
theorem Hm{Q:Unit->Shared->Prop}(hu:A.units<cLine)(I:Inv X pins σ H s)(g:sI H d y v H')(ry:RelV y u)(rv:RelV v r)(h:∀ h' tk,Heap.SameBut d s.heap h'->Inv X pins σ H' { s with heap:=h',toks:=tk }->Q () { s with heap:=h',toks:=tk }) :
  wpAny (model X.prog X.w) A (dictSet d u r) Q E s:=by
 rcases g with⟨kvs,k,e,ey,l,eH⟩|⟨kvs,k,b,e,ey,eb,l,eH⟩
 ·subst ey eH;obtain⟨z,hd,vs,rel,dd⟩:=Ov I.hok e;have hz:vs.length<=sizeLine:=by rw[<-rel.length];exact z
  have hl:(putK kvs k v).length<=sizeLine:=by have:=lX kvs k v;omega
  refine wpAny_dictSet_pairs (hsz:=hz) (za ry) dd λh' dd' hs=>h h' _ hs ?_;have he:∃ q,h'.get? d=some q:=let⟨q,_,_,hq,_⟩:=dd';⟨q,hq⟩;exact xf I (by rw[e];exact True.intro) hs he (Jj hl hd (rel.put k rv) dd')
 ·subst ey eH;cases (show u=Value.ref b from ry);obtain⟨z,hd,xs,rel,dd⟩:=RG I.hok e;have hz:xs.length<=sizeLine:=by rw[<-Paired.length rel];exact z
  have hl:(putK kvs k v).length<=sizeLine:=by have:=lX kvs k v;omega
  refine wpAny_dictSet_heap (hsz:=hz) (show(tupleKind (bR X.prog X.w)).room A from hu) (w6 I.hok eb) dd λh' dd' hs=>h h' _ hs ?_;obtain⟨q,es,ep,hq,h2,h3,h4,_,h5⟩:=dd';refine xf I (by rw[e];exact True.intro) hs ⟨q,hq⟩ ⟨hl,hd,_,(rel.put k eb rv).keeps λc ys ec=>?_,q,es,ep,hq,h2,h3,h4,h5⟩
  rw[aq (Ri ec e (λz=>nomatch z))];exact ec
theorem sI.other(g:sI H d y v H'){b:Addr}(hb:b≠d):H' b=H b:=by
 rcases g with⟨kvs,k,e,ey,l,rfl⟩|⟨kvs,k,b',e,ey,eb,l,rfl⟩
 ·exact aq hb
 ·exact aq hb
def wy(d:Addr):List (V×V)->Hp->(Hp->Prop)->Prop
 |[],H,Q=>Q H
 |(y,v)::r,H,Q=>∃ H',sI H d y v H'/\wy d r H' Q
def w5(K:Frag)(H:Hp)(ys:List V)(ps:List (V×V)):Prop:=ys.length=ps.length/\∀ (j:Nat) x p,ys[j]?=some x->ps[j]?=some p->∃ T,x=.ref T/\SqT K H T [p.1,p.2]
theorem SqT.but{K:Frag}{T:Addr}{xs:List V}(h:SqT K H T xs)(hb:∀ b,b≠d->H' b=H b)(hn:T≠d):SqT K H' T xs:=by
 rcases h with(h|⟨o,h⟩)|h
 ·exact .inl (.inl (by rw[hb T hn];exact h))
 ·exact .inl (.inr ⟨o,by rw[hb T hn];exact h⟩)
 ·exact .inr h
theorem JR{it:Addr}{fp:List Addr}{n:Nat}{P:Nat->Value->Prop}{St:Nat->Heap->Prop}{ps:List (V×V)}{R:Result->Shared->Prop}{H0:Hp}(hc:X.calm=true)(W:Walks X.prog X.w A.in1 it fp [it] n P St)(hu:A.in1.units<cLine)
  (hn:ps.length=n)(hd:d ∉ fp)(hit:∀ H,H d≠none->(∀ b,b≠d->H b=H0 b)->oU X pins H it)
  (hp:∀ (i:Nat) v p,P i v->ps[i]?=some p->∃ T,v=.ref T/\T≠d/\SqT X.K H0 T [p.1,p.2]) :
  ∀ (k i:Nat) (s:Shared) (H:Hp),n-i=k->i<=n->St i s.heap->Inv X pins σ H s->H d≠none->(∀ b,b≠d->H b=H0 b)->∀ tk,wy d (ps.drop i) H (λH'=>∀ s',Inv X pins σ H' s'->R (.ok (.ret .none)) s') ->
   codeAny (model X.prog X.w) A (.builtin "dict.update.loop" ⟨[.ref d,.ref it,.int i tk,.none],[]⟩) R s:=by
 intro k;induction k with
 |zero=>
  intro i s H hk hi hst I hHd hb tk hR;have hin:i=n:=by omega
  subst hin;refine codeAny_builtin gj ?_;rw[Around.under_plainId bY _];show wpAny _ A.in1 (pyNext (.ref it)>>=_) _ _ s
  refine Zak (W.done s _ _ hst λh' tk' hk'=>?_);show wpAny _ _ (Builtin.Dict.addKeywords d []>>=_) _ _ _
  rw[Zbg (by omega)] at hR
  exact Zak (ZaL (ZaL (hR _ (I.nH hk' λb hb'=>by rw[Zaj.mp hb'];exact hit H hHd hb))))
 |succ k ih=>
  intro i s H hk hi hst I hHd hb tk hR;have hlt:i<n:=by omega
  have hlp:i<ps.length:=by omega
  have hdr:ps.drop i=ps[i]::ps.drop (i+1):=ZaR hlp;rw[hdr] at hR;refine codeAny_builtin gj ?_;rw[Around.under_plainId bY _];show wpAny _ A.in1 (pyNext (.ref it)>>=_) _ _ s
  refine Zak (W.item i s _ _ hlt hst λv h' tk' hP hst' hk'=>?_);obtain⟨T,rfl,hT,hq⟩:=hp i v ps[i] hP (by simp[hlp])
  have I1:Inv X pins σ H { s with heap:=h',toks:=tk' }:=I.nH hk' λb hb'=>by rw[Zaj.mp hb'];exact hit H hHd hb
  obtain⟨its,rv,ht,_⟩:=I1.tuple (SqT.but hq hb hT);obtain⟨u1,u2,rfl,r1,r2⟩:∃ u1 u2,its=[u1,u2]/\RelV ps[i].1 u1/\RelV ps[i].2 u2:=by
   cases rv with
   |cons a t=>cases t with
    |cons b t=>cases t;exact⟨_,_,rfl,a,b⟩
  obtain⟨H',g,hR⟩:=hR;refine Zak (wpAny_holding (Zak (wpAny_tryCatch ?_)));unfold Builtin.Dict.pairItems;refine Zak (wpAny_typeOf ht.typeIs ?_);rw[Zah (by decide)]
  obtain⟨o,h1,_,m,h2⟩:=ht;refine Zak (wpAny_seqItems h1 h2 (ZaL ?_));show wpAny _ A.in1 (holding [u1,u2] (dictSet d u1 u2)) _ _ _
  refine wpAny_holding (Hm hu I1 g r1 r2 λh2' tk2 hs2 I2=>?_);refine ZaL ⟨plainId_quiet bY _,?_⟩;have:=ih (i+1) { s with heap:=h2',toks:=tk2 } H' (by omega) hlt (W.frame _ _ _ hst' λb hb' o e=>(hs2.2 b λz=>hd (by rw[<-z];exact hb')).trans e) I2
   (by rcases g with⟨_,_,_,_,_,rfl⟩|⟨_,_,_,_,_,_,_,rfl⟩<;>rw[aK]<;>simp) (λb hb'=>(sI.other g hb').trans (hb b hb')) 0 hR
  exact this
end
theorem uA:∀ {xs:List V}{us:List Value}{i:Nat}{u:Value},Vals xs us->us[i]?=some u->∃ x,xs[i]?=some x/\RelV x u
 |[],_,i,u,r,h=>by cases r;simp at h
 |x::xs,_,i,u,r,h=>by
  cases r with
  |cons a t=>
   cases i with
   |zero=>simp at h;subst h;exact⟨x,rfl,a⟩
   |succ i=>obtain⟨y,h1,h2⟩:=uA (i:=i) t (by simpa using h);exact⟨y,by simpa using h1,h2⟩
def CK(K:Frag)(n:HO):List V->Hp->VK->Prop:=λxs H Q=>∃ p ys ps,xs=[.ref p]/\(SqL K H p ys\/H p=some (.tup ys))/\w5 K H ys ps/\∀ d,H d=none->wy d ps (upd H d n) λH'=>Q (.ref d) H'
section
variable{X:Cx}
theorem CN{n:HO}(hc:X.calm=true)(hu:X.A.units+64<cLine)(hn:n=.dK []\/n=.dT []):oE X (.type "dict") (CK X.K n):=by
 intro pins s σ H xs us Q I rv h;obtain⟨p,ys,ps,rfl,hq,hps,q⟩:=h;obtain⟨u,rfl,ru⟩:=rv.one;cases ru;have hh:X.A.handled=none:=I.ok.hd hc;refine callType_codes (Q₁:=λobj s₁=>obj=.ref s.heap.objs.size/\s₁={ s with heap:=s.heap.push { cls:=.type "dict",data:=.dict #[] } }) F.kt_called_dict (F.kt_typeCall_dict_1 _) F.entry_dict_init (kt_code_dict_new _ ⟨rfl,rfl⟩) ?_;rintro obj s₁ ⟨rfl,rfl⟩;have ok:dg X.prog X.w (upd H s.heap.objs.size n) (s.heap.push { cls:=.type "dict",data:=.dict #[] }) s.heap.objs.size n:=by
  rcases hn with rfl|rfl
  ·exact zg s.heap I.big
  ·exact Jk s.heap I.big
 have hfree:H s.heap.objs.size=none:=I.hok.fresh (Zag _);have I1:Inv X pins σ (upd H s.heap.objs.size n) { s with heap:=s.heap.push { cls:=.type "dict",data:=.dict #[] } }:=I.laid (a:=s.heap.objs.size) (o:=n) (t':=s.toks) (λ_ _ q=>Zaf _ q) (Zag _) ok;have q:=q _ hfree;have hd1:(s.heap.push { cls:=.type "dict",data:=.dict #[] }).get? s.heap.objs.size=some { cls:=.type "dict",data:=.dict #[] }:=Zax _ rfl;have tyD:({ s with heap:=s.heap.push { cls:=.type "dict",data:=.dict #[] } }:Shared).TypeIs (.ref s.heap.objs.size) "dict":=⟨_,hd1,rfl⟩;refine⟨tyD,F.args_dict_init_2 _ _,?_⟩;unfold Builtin.«dict.__init__»;refine Zak ?_;unfold Builtin.Dict.selfAndRest;refine Zak (wpAny_notOrdered_dict tyD ?_);show wpAny _ _ (pure (s.heap.objs.size,[Value.ref p])) _ _ _
 refine ZaL ?_;show wpAny _ _ (Builtin.Dict.updateFrom "dict.__init__" s.heap.objs.size (.ref p) [] .none) _ _ _
 unfold Builtin.Dict.updateFrom;have same:aR H (upd H s.heap.objs.size n):=eG hfree;have hnd:∀ (j:Nat) x pr,ys[j]?=some x->ps[j]?=some pr->∃ T,x=.ref T/\T≠s.heap.objs.size/\SqT X.K (upd H s.heap.objs.size n) T [pr.1,pr.2]:=λj x pr e1 e2=>by
  obtain⟨T,rfl,hT⟩:=hps.2 j x pr e1 e2;obtain⟨its,_,ht,_⟩:=I.tuple hT;exact⟨T,rfl,ZaG ht.lt,same.tup hT⟩
 have fin:∀ (h2:Heap) (tk:Nat) (o:Obj) (St:Nat->Heap->Prop) (its:List Value),(∀ b ob,(s.heap.push { cls:=.type "dict",data:=.dict #[] }).get? b=some ob->h2.get? b=some ob)->Vals ys its ->
   Walks X.prog X.w X.A.in1.in1 h2.objs.size [h2.objs.size,p] [h2.objs.size] its.toArray.size (λi v=>its.toArray[i]?=some v) St->St 0 (h2.push o)->p≠s.heap.objs.size->(∀ b,o.cls≠.ref b) ->
   codeAny (model X.prog X.w) X.A.in1 (.builtin "dict.update.loop" ⟨[.ref s.heap.objs.size,.ref h2.objs.size,.int (0:Nat) 0,.none],[]⟩) (wants (λr s₂=>r=.none/\EP X pins σ Q (.ref s.heap.objs.size) s₂) X.xe) { s with heap:=h2.push o,toks:=tk }:=by
  intro h2 tk o St its hk rv W h0 hp _;have I2:Inv X pins σ (upd H s.heap.objs.size n) { s with heap:=h2,toks:=tk }:=I1.kept hk;have I3:Inv X pins σ (upd H s.heap.objs.size n) { s with heap:=h2.push o,toks:=tk }:=I2.kept (t':=tk) λb ob e=>Zaf _ e;have lt1:s.heap.objs.size<h2.objs.size:=Zau (hk _ _ hd1);have hn2:upd H s.heap.objs.size n h2.objs.size=none:=I2.hok.fresh (Zag _);refine JR (A:=X.A.in1) (ps:=ps) (H0:=upd H s.heap.objs.size n) hc W (show X.A.units+2<cLine by lia) ?_ ?_ (λHx hx1 hx2=>?_) (λi v pr hv hpr=>?_) _ 0 _ _ rfl (Zbb _) h0 I3 (by rw[aK];simp) (λ_ _=>rfl) 0 ?_
  ·rw[List.size_toArray,<-rv.length];exact hps.1.symm
  ·intro z;rcases ZaW.mp z with z|z
   ·exact absurd z (ZaG lt1)
   ·exact absurd (Zaj.mp z).symm hp
  ·exact I2.t8 (Zag _) (by rw[hx2 _ (Nat.ne_of_gt lt1)];exact hn2)
  ·rw[List.getElem?_toArray] at hv;obtain⟨y,hy,ry⟩:=uA rv hv;obtain⟨T,rfl,h1,h2⟩:=hnd i y pr hy hpr;cases ry;exact⟨T,rfl,h1,h2⟩
  ·rw[Zbe];have mono:∀ (ps:List (V×V)) (Hx:Hp) (P1 P2:Hp->Prop),(∀ H,P1 H->P2 H)->wy s.heap.objs.size ps Hx P1->wy s.heap.objs.size ps Hx P2:=by
    intro ps;induction ps with
    |nil=>exact λHx P1 P2 hP h=>hP _ h
    |cons a r ih=>exact λHx P1 P2 hP ⟨H',g,h⟩=>⟨H',g,ih _ _ _ hP h⟩
   exact mono _ _ _ _ (λHx hQ s' Is=>⟨rfl,.ref _,Hx,Is,rfl,hQ⟩) q
 rcases hq with hq|hq
 ·obtain⟨its,rv,pl,hz⟩:=I1.list (same.seq hq);have hp:p≠s.heap.objs.size:=λz=>by
   obtain⟨o,m,e,c,_⟩:=pl;rw[z,hd1] at e;cases e;exact absurd (show Value.type "dict"=Value.type "list" from c) (by decide)
  obtain⟨o,m,e,c,dn,dt⟩:=id pl;refine Zak (wpAny_typeOf (show Shared.TypeIs _ (.ref p) "list" from⟨_,e,c⟩) ?_);rw[Zah (by decide)]
  refine Zak (o7 e c dt dn uz (by decide +kernel) hh λh2 tk hk=>?_)
  rw[Zah (show(none:Option Value).isNone=true from rfl)];refine Zak (wpAny_rule (Zak (wpAny_pyIter_list ((pl.keeps hk).isList) ?_)));refine ZaL ⟨plainId_quiet bY _,fin h2 tk _ _ its hk rv (Walks.list (A:=X.A.in1.in1) hh _ p (ZaG (pl.keeps hk).lt) its.toArray) ⟨⟨_,Zax _ rfl,rfl,rfl⟩,(pl.keeps λb ob eb=>Zaf _ (hk b ob eb)).isList⟩ hp (λb z=>nomatch z)⟩
 ·obtain⟨_,its,rv,tn⟩:=(show dg X.prog X.w _ _ p (.tup ys) from I1.hok p _ (same _ _ hq));have hp:p≠s.heap.objs.size:=λz=>by
   obtain⟨⟨o,e,c,_⟩,_⟩:=tn;rw[z,hd1] at e;cases e;exact absurd (show Value.type "dict"=Value.type "tuple" from c) (by decide)
  obtain⟨⟨o,e,c,m,dt⟩,dn⟩:=id tn;refine Zak (wpAny_typeOf (show Shared.TypeIs _ (.ref p) "tuple" from⟨_,e,c⟩) ?_);rw[Zah (by decide)]
  refine Zak (ou e c dt (dn o e) sS (by decide +kernel) hh λh2 tk hk=>?_)
  rw[Zah (show(none:Option Value).isNone=true from rfl)];have tp:({ s with heap:=h2,toks:=tk }:Shared).heap.IsTuple p its.toArray:=⟨o,hk _ _ e,c,m,dt⟩;refine Zak (wpAny_rule (Zak (wpAny_pyIter_tuple tp ?_)));refine ZaL ⟨plainId_quiet bY _,fin h2 tk _ _ its hk rv (Walks.tuple (A:=X.A.in1.in1) hh _ p (ZaG (Zau (hk _ _ e))) its.toArray) ⟨⟨_,Zax _ rfl,rfl,rfl⟩,⟨o,Zaf _ (hk _ _ e),c,m,dt⟩⟩ hp (λb z=>nomatch z)⟩
end
section
variable{κ:Type}[DecidableEq κ]
def cU:List (κ×PV)->κ->Option PV
 |[],_=>none
 |(a,p)::l,k=>if a=k then some p else cU l k
def p8:List (κ×PV)->κ->PV->List (κ×PV)
 |[],k,p=>[(k,p)]
 |(a,q)::l,k,p=>if a=k then(a,p)::(if(l.any λe=>decide (e.1=k))=true then p8 l k p else l) else(a,q)::p8 l k p
inductive fU(K:Frag)(F:Hp):List (κ×V)->List (κ×PV)->Prop
 |nil:fU K F [] []
 |cons {k:κ}{v:V}{p:PV}{xs:List (κ×V)}{l:List (κ×PV)} (h:Rep K F v p) (t:fU K F xs l):fU K F ((k,v)::xs) ((k,p)::l)
variable{K:Frag}{F:Hp}{xs:List (κ×V)}{l:List (κ×PV)}{k:κ}
theorem fU.of:∀ {xs:List (κ×V)}{l:List (κ×PV)},xs.map (·.1)=l.map (·.1)->(∀ (j:Nat) x p,xs[j]?=some x->l[j]?=some p->Rep K F x.2 p.2)->fU K F xs l
 |[],[],_,_=>.nil
 |[],_::_,h,_=>by simp at h
 |_::_,[],h,_=>by simp at h
 |(a,v)::xs,(b,p)::l,h,hr=>by
  simp only[Zal,List.cons.injEq] at h;obtain⟨h1,h2⟩:=h;have h1:a=b:=h1;subst h1;exact .cons (hr 0 _ _ rfl rfl) (fU.of h2 λj x p e1 e2=>hr (j+1) x p (by simpa using e1) (by simpa using e2))
theorem fU.keys(h:fU K F xs l):xs.map (·.1)=l.map (·.1):=by
 induction h with
 |nil=>rfl
 |cons h t ih=>simp[ih]
theorem fU.len(h:fU K F xs l):xs.length=l.length:=by
 have:=ZbJ List.length h.keys;simpa using this
theorem fU.at(h:fU K F xs l):∀ (j:Nat) x p,xs[j]?=some x->l[j]?=some p->Rep K F x.2 p.2:=by
 induction h with
 |nil=>intro j x p e;simp at e
 |cons h t ih=>
  intro j x p e1 e2;cases j with
  |zero=>simp at e1 e2;subst e1 e2;exact h
  |succ j=>exact ih j x p (by simpa using e1) (by simpa using e2)
theorem fU.none(h:fU K F xs l)(e:cU l k=none):iC xs k=none:=by
 induction h with
 |nil=>rfl
 |@cons a v p xs l h t ih=>
  unfold cU at e;split at e
  ·cases e
  ·rename_i hk;rw[jm hk];exact ih e
theorem fU.some{p:PV}(h:fU K F xs l)(e:cU l k=some p):∃ v,iC xs k=some v/\Rep K F v p:=by
 induction h with
 |nil=>cases e
 |@cons a v q xs l h t ih=>
  unfold cU at e;split at e
  ·rename_i hk;cases e;exact⟨v,lW hk,h⟩
  ·rename_i hk;obtain⟨w,h1,h2⟩:=ih e;exact⟨w,by rw[jm hk];exact h1,h2⟩
theorem fU.any(h:fU K F xs l):(xs.any λe=>decide (e.1=k))=l.any λe=>decide (e.1=k):=by
 induction h with
 |nil=>rfl
 |cons h t ih=>simp only[ZbQ,ih]
theorem fU.repl{v:V}{p:PV}(h:fU K F xs l)(r:Rep K F v p):(l.any λe=>decide (e.1=k))=true->fU K F (xs.map λkv=>if kv.1=k then(kv.1,v) else kv) (p8 l k p):=by
 induction h with
 |nil=>intro z;cases z
 |@cons a w q xs l h t ih=>
  intro z;unfold p8;rw[Zal];by_cases hk:a=k
  ·rw[Zah hk,Zah hk];refine .cons r ?_;by_cases hl:(l.any λe=>decide (e.1=k))=true
   ·rw[Zah hl];exact ih hl
   ·rw[Zai hl];have hx:∀ e∈xs,¬e.1=k:=λe he z=>hl (by rw[<-t.any];exact List.any_eq_true.mpr ⟨e,he,by simpa using z⟩)
    rw[show xs.map (λkv=>if kv.1=k then(kv.1,v) else kv)=xs from by
     conv=>rhs;rw[<-List.map_id xs]
     exact Za2 λe he=>by rw[Zai (hx e he)];rfl]
    exact t
  ·rw[Zai hk,Zai hk];refine .cons h (ih ?_);rw[ZbQ] at z;simpa[hk] using z
theorem fU.snoc{v:V}{p:PV}(h:fU K F xs l)(r:Rep K F v p):(l.any λe=>decide (e.1=k))=false->fU K F (xs++[(k,v)]) (p8 l k p):=by
 induction h with
 |nil=>intro _;exact .cons r .nil
 |@cons a w q xs l h t ih=>
  intro z;rw[ZbQ,Bool.or_eq_false_iff] at z;have hk:¬a=k:=by simpa using z.1
  unfold p8;rw[Zai hk];exact .cons h (ih z.2)
theorem fU.put{v:V}{p:PV}(h:fU K F xs l)(r:Rep K F v p):fU K F (putK xs k v) (p8 l k p):=by
 unfold putK;by_cases z:(xs.any λe=>decide (e.1=k))=true
 ·rw[Zah z];exact h.repl r (by rw[<-h.any];exact z)
 ·rw[Zai z];exact h.snoc r (by rw[<-h.any];exact Bool.not_eq_true _▸z)
end
def qb:PV->Option Key
 |.int i=>some (.inl i)
 |.str x=>some (.inr x)
 |_=>none
def kE:List PV->Option (List Key)
 |[]=>some []
 |p::l=>match qb p,kE l with
  |some k,some ks=>some (k::ks)
  |_,_=>none
def CP:Key->PV
 |.inl i=>.int i
 |.inr x=>.str x
theorem qd{K:Frag}{F:Hp}{p:PV}{k:Key}{v:V}(h:qb p=some k)(r:Rep K F v p):v=kV k:=by
 cases p with
 |int i=>cases h;cases Rep.bu r;rfl
 |str x=>cases h;cases Rep.bG r;rfl
 |_=>cases h
theorem rD{K:Frag}{F:Hp}:∀ {l:List PV}{ks:List Key}{xs:List V},kE l=some ks->bQ K F xs l->xs=ks.map kV
 |[],ks,xs,h,r=>by cases h;exact r.jy
 |p::l,ks,xs,h,r=>by
  unfold kE at h;split at h
  ·rename_i k ks' h1 h2;cases h;obtain⟨v,ys,rfl,r1,r2⟩:=r.eN;rw[qd h1 r1,rD h2 r2];rfl
  ·cases h
def PV.isD:PV->Bool
 |.dk _=>true
 |.dt _=>true
 |_=>false
def DLk(K:Frag)(F H:Hp)(a:Addr):PV->Prop
 |.dk l=>∃ xs,Rd H a (.dK xs)/\xs.map (·.1)=l.map (·.1)/\∀ (j:Nat) x p,xs[j]?=some x->l[j]?=some p->Rep K F x.2 p.2
 |.dt l=>∃ xs,Rd H a (.dT xs)/\xs.map (·.1)=l.map (·.1)/\∀ (j:Nat) x p,xs[j]?=some x->l[j]?=some p->Rep K F x.2 p.2
 |_=>False
theorem DLk.up{K:Frag}{F H F' H':Hp}{a:Addr}{p:PV}(o:DLk K F H a p)(sf:aR F F')(sh:aR H H'):DLk K F' H' a p:=by
 cases p with
 |dk l=>obtain⟨xs,e,r,q⟩:=o;exact⟨xs,e.same sh,r,λj x p a b=>(q j x p a b).up sf⟩
 |dt l=>obtain⟨xs,e,r,q⟩:=o;exact⟨xs,e.same sh,r,λj x p a b=>(q j x p a b).up sf⟩
 |_=>exact o.elim
theorem Own.look{K:Frag}{F H:Hp}{a:Addr}{p:PV}(o:Own K F H a p)(d:p.isD=true):DLk K F H a p:=by
 cases p with
 |dk l=>obtain⟨xs,e,r⟩:=o;exact⟨xs,.inl e,r⟩
 |dt l=>obtain⟨xs,e,r⟩:=o;exact⟨xs,.inl e,r⟩
 |_=>cases d
def aD(K:Frag):Rel PV:=λF H v p=>p.isD=true/\∃ a,v=.ref a/\DLk K F H a p
theorem aD.up{K:Frag}:UpM (aD K):=λ_ _ _ _ _ _ u ⟨h1,b,e,o⟩=>⟨h1,b,e,o.up u.ff u.hh⟩
def asD(p:PV):Option (Res PV):=if p.isD=true then some (.ok p) else none
theorem Rep.own{K:Frag}{F H:Hp}{v:V}{p:PV}(r:Rep K F v p)(s:aR F H)(d:p.isD=true):∃ a,v=.ref a/\DLk K F H a p:=by
 cases r with
 |dk h hl hr=>exact⟨_,rfl,_,h.same s,hl,hr⟩
 |dt h hl hr=>exact⟨_,rfl,_,h.same s,hl,hr⟩
 |_=>cases d
section
variable{K:Frag}{C:Cg}{g h:Fn PV}
def gR(i:Nat):Fn PV:=λρ=>bnd (mVL i ρ) asD
theorem jg(i:Nat):MJ K C (aD K) (qT i) (gR i):=by
 intro F H σ ρ Q r R e P;unfold gR at e;rcases b8 e with⟨z,e1,rfl⟩|⟨p,e1,hk⟩
 ·unfold mVL at e1;split at e1<;>cases e1
 ·unfold asD at hk;split at hk
  case isFalse=>cases hk
  rename_i hd;cases hk;unfold mVL at e1;split at e1
  ·rename_i q hq;cases e1;obtain⟨v,e2,e3⟩:=R.sh i _ hq;exact⟨v,e2,P v F H (Up.refl R.rb.sub) ⟨hd,Rep.own e3 R.rb.sub hd⟩⟩
  ·rename_i q hq;cases e1;obtain⟨a,e2,e3,_⟩:=R.ow i _ hq;exact⟨_,e2,P _ F H (Up.refl R.rb.sub) ⟨hd,a,rfl,e3.look hd⟩⟩
  ·cases e1
def qe:PV->PV->Option (Option PV)
 |.dk l,k=>(qb k).map (cU l)
 |.dt l,.tup ks=>(kE ks).map (cU l)
 |_,_=>none
theorem zE{F H:Hp}{a:Addr}{d k:PV}{y:V}{r:Option PV}(s:aR F H)(o:DLk K F H a d)(ry:Rep K F y k)(e:qe d k=some r) :
  ∃ o,zc H a y o/\(r=none->o=none)/\∀ p,r=some p->∃ v,o=some v/\Rep K F v p:=by
 have inv:(∃ l,d=.dk l)\/∃ l ks,d=.dt l/\k=.tup ks:=by
  clear o ry
  cases d<;>first|exact noS e|exact .inl ⟨_,rfl⟩|(cases k<;>first|exact noS e|exact .inr ⟨_,_,rfl,rfl⟩)
 rcases inv with⟨l,rfl⟩|⟨l,ks,rfl,rfl⟩
 ·obtain⟨xs,h1,h2,h3⟩:=o;have D:=fU.of (K:=K) (F:=F) h2 h3;have e:(qb k).map (cU l)=some r:=e;cases hk:qb k with
  |none=>rw[hk] at e;cases e
  |some k'=>
   rw[hk] at e;cases e;cases qd hk ry;exact⟨_,.inl ⟨_,_,h1,rfl,rfl⟩,λn=>D.none n,λp q=>D.some q⟩
 ·obtain⟨xs,h1,h2,h3⟩:=o;have D:=fU.of (K:=K) (F:=F) h2 h3;have e:(kE ks).map (cU l)=some r:=e;cases hk:kE ks with
  |none=>rw[hk] at e;cases e
  |some k'=>
   rw[hk] at e;cases e;obtain⟨b,ys,rfl,hb,rr⟩:=Rep.pP ry;cases rD hk rr;exact⟨_,.inr ⟨_,_,_,h1,rfl,s _ _ hb,rfl⟩,λn=>D.none n,λp q=>D.some q⟩
def kI(d k:PV):Option (Res PV):=match qe d k with
 |some (some p)=>some (.ok p)
 |_=>none
def O2:R2:=λx y H Q=>∃ a v,x=.ref a/\zc H a y (some v)/\Q v H
theorem Qw:R2M C (aD K) (aF K) (aF K) O2 kI:=by
 intro F H x y a b res Q s ha hb e P;obtain⟨_,ad,rfl,o⟩:=ha;unfold kI at e;split at e
 ·rename_i p hp;cases e;obtain⟨ov,g,_,g2⟩:=zE s o hb hp;obtain⟨v,rfl,rv⟩:=g2 p rfl;exact⟨ad,v,rfl,g,P v F H (Up.refl s) rv⟩
 ·cases e
def my(k d:PV):Option (Res PV):=(qe d k).map λr=>.ok (.bl (!r.isSome))
theorem JS:R2M C (aF K) (aD K) (aF K) (λy x H Q=>∃ a o,x=.ref a/\zc H a y o/\Q (.bl (!o.isSome)) H) my:=by
 intro F H x y a b res Q s ha hb e P;obtain⟨_,ad,rfl,o⟩:=hb;unfold my at e;cases hp:qe b a with
 |none=>rw[hp] at e;cases e
 |some r=>
  rw[hp] at e;cases e;obtain⟨ov,g,g1,g2⟩:=zE s o ha hp;have es:ov.isSome=r.isSome:=by
   cases r with
   |none=>rw[g1 rfl];rfl
   |some p=>obtain⟨v,rfl,_⟩:=g2 p rfl;rfl
  exact⟨ad,ov,rfl,g,by rw[es];exact P _ F H (Up.refl s) .bl⟩
def Mq:PV->PV->PV->Option PV
 |.dk l,k,p=>match qb k with
  |some k=>if l.length<sizeLine then some (.dk (p8 l k p)) else none
  |none=>none
 |.dt l,.tup ks,p=>match kE ks with
  |some k=>if l.length<sizeLine then some (.dt (p8 l k p)) else none
  |none=>none
 |_,_,_=>none
theorem Mr{F H:Hp}{a:Addr}{d k p d':PV}{y v:V}(s:aR F H)(o:Own K F H a d)(ry:Rep K F y k)(rv:Rep K F v p)(e:Mq d k p=some d') :
  ∃ ob,sI H a y v (upd H a ob)/\Own K F (upd H a ob) a d':=by
 have inv:(∃ l,d=.dk l)\/∃ l ks,d=.dt l/\k=.tup ks:=by
  clear o ry rv
  cases d<;>first|exact noS e|exact .inl ⟨_,rfl⟩|(cases k<;>first|exact noS e|exact .inr ⟨_,_,rfl,rfl⟩)
 rcases inv with⟨l,rfl⟩|⟨l,ks,rfl,rfl⟩
 ·obtain⟨xs,h1,h2,h3⟩:=o;have D:=fU.of (K:=K) (F:=F) h2 h3;have e:(match qb k with|some k=>if l.length<sizeLine then some (PV.dk (p8 l k p)) else none|none=>none)=some d':=e
  split at e
  case h_2=>cases e
  rename_i k' hk;split at e
  case isFalse=>cases e
  rename_i hz;cases e;cases qd hk ry;have D':=D.put (k:=k') rv;exact⟨_,sI.k h1 (by rw[D.len];exact hz),_,aK,D'.keys,D'.at⟩
 ·obtain⟨xs,h1,h2,h3⟩:=o;have D:=fU.of (K:=K) (F:=F) h2 h3;have e:(match kE ks with|some k=>if l.length<sizeLine then some (PV.dt (p8 l k p)) else none|none=>none)=some d':=e
  split at e
  case h_2=>cases e
  rename_i k' hk;split at e
  case isFalse=>cases e
  rename_i hz;cases e;obtain⟨b,ys,rfl,hb,rr⟩:=Rep.pP ry;cases rD hk rr;have D':=D.put (k:=k') rv;exact⟨_,sI.t h1 (s _ _ hb) (by rw[D.len];exact hz),_,aK,D'.keys,D'.at⟩
theorem Ez:MO K C Jl Ey:=by
 intro F H σ ρ Q r R e P;cases e;intro p hp;exact P p F _ (Up.Hf R.rb.sub hp) hp (R.rb.sub.free hp) ⟨[],aK,rfl,λj x p h=>by simp at h⟩
def asPair:PV->Option (PV×PV)
 |.tup [a,b]=>some (a,b)
 |_=>none
def jB:List PV->Option (List (PV×PV))
 |[]=>some []
 |p::l=>match asPair p,jB l with
  |some a,some r=>some (a::r)
  |_,_=>none
def gU(d:PV):List (PV×PV)->Option PV
 |[]=>some d
 |(k,p)::r=>match Mq d k p with
  |some d'=>gU d' r
  |none=>none
theorem uB{F H:Hp}(s:aR F H):∀ {l:List PV}{ps:List (PV×PV)}{xs:List V},jB l=some ps->bQ K F xs l ->
  ∃ vs:List (V×V),w5 K H xs vs/\vs.length=ps.length/\∀ (j:Nat) x p,vs[j]?=some x->ps[j]?=some p->Rep K F x.1 p.1/\Rep K F x.2 p.2
 |[],ps,xs,h,r=>by
  cases h;cases r.jy;exact⟨[],⟨rfl,λj x p e=>by simp at e⟩,rfl,λj x p e=>by simp at e⟩
 |p::l,ps,xs,h,r=>by
  unfold jB at h;split at h
  ·rename_i a r' h1 h2;cases h;obtain⟨v,ys,rfl,r1,r2⟩:=r.eN;obtain⟨vs,g1,g2,g3⟩:=uB s h2 r2;unfold asPair at h1;split at h1
   ·rename_i pa pb;cases h1;obtain⟨b,zs,rfl,hb,rr⟩:=Rep.cD r1;obtain⟨v1,zs1,rfl,q1,rr⟩:=rr.eN;obtain⟨v2,zs2,rfl,q2,rr⟩:=rr.eN;cases rr.jy;refine⟨(v1,v2)::vs,⟨by simp[g1.1],λj x p e1 e2=>?_⟩,by simp[g2],λj x p e1 e2=>?_⟩
    ·cases j with
     |zero=>simp at e1 e2;subst e1 e2;exact⟨b,rfl,s.tup hb⟩
     |succ j=>exact g1.2 j x p (by simpa using e1) (by simpa using e2)
    ·cases j with
     |zero=>simp at e1 e2;subst e1 e2;exact⟨q1,q2⟩
     |succ j=>exact g3 j x p (by simpa using e1) (by simpa using e2)
   ·cases h1
  ·cases h
theorem uC{F:Hp}{a:Addr}{Q:Hp->Prop}:∀ {ps:List (PV×PV)}{vs:List (V×V)}{H:Hp}{d d':PV},aR F H->F a=none->Own K F H a d->vs.length=ps.length->(∀ (j:Nat) x p,vs[j]?=some x->ps[j]?=some p->Rep K F x.1 p.1/\Rep K F x.2 p.2) ->
  gU d ps=some d'->(∀ H',aR F H'->(∀ b,b≠a->H' b=H b)->Own K F H' a d'->Q H')->wy a vs H Q
 |[],vs,H,d,d',s,hn,o,hl,hr,e,q=>by
  cases vs with
  |nil=>cases e;exact q H s (λ_ _=>rfl) o
  |cons v vs=>simp at hl
 |(k,p)::ps,vs,H,d,d',s,hn,o,hl,hr,e,q=>by
  cases vs with
  |nil=>simp at hl
  |cons v vs=>
   unfold gU at e;split at e
   case h_2=>cases e
   rename_i d1 h1;obtain⟨r1,r2⟩:=hr 0 v (k,p) rfl rfl;obtain⟨ob,g,o1⟩:=Mr s o r1 r2 h1;refine⟨_,g,uC (H:=upd H a ob) (λb u z=>by rw[aq (aY z hn)];exact s b u z) hn o1 (by simpa using hl) (λj x p e1 e2=>hr (j+1) x p (by simpa using e1) (by simpa using e2)) e λH' s' hb o'=>?_⟩
   exact q H' s' (λb hb'=>(hb b hb').trans (aq hb')) o'
def kJ(d:PV)(l:List PV):Option (Res PV):=match jB l with
 |some ps=>(gU d ps).map .ok
 |none=>none
theorem xK{n:HO}{d:PV}(hd:∀ F H a,H a=some n->Own K F H a d):R1O K C (aV K) (CK K n) (kJ d):=by
 intro F H x l res Q s ha e P;obtain⟨b,xs,rfl,h1,r1⟩:=ha;unfold kJ at e;split at e
 case h_2=>cases e
 rename_i ps hps;cases hd':gU d ps with
 |none=>rw[hd'] at e;cases e
 |some d'=>
  rw[hd'] at e;cases e;obtain⟨vs,g1,g2,g3⟩:=uB (H:=H) s hps r1;refine⟨b,xs,vs,rfl,.inl h1,g1,λa na=>?_⟩;refine uC (F:=F) (s.trans (eG na)) (s.free na) (hd _ _ _ aK) g2 g3 hd' λH' s' hb o'=>?_;exact P a F H' ⟨aR.refl _,λc o q=>by rw[hb c (aY q na),aq (aY q na)];exact q,λ_ _ q=>.inl q,s'⟩ na (s.free na) o'
theorem xM{F H:Hp}{a:Addr}(h:H a=some (.dK [])):Own K F H a (.dk []):=⟨[],h,rfl,λj x p e=>by simp at e⟩
end
section
variable{K:Frag}{C:Cg}{ta tb:TE}{f g:Fn PV}
theorem sZ(ha:MJ K C (aD K) ta f)(hb:MJ K C (aF K) tb g):MJ K C (aF K) (Ei ta tb) (m2 kI f g):=aB (r2:=O2) aD.up Qw ha hb
end
section
variable{X:Cx}
theorem Hn{k:Nat}(hr:dH k X.A):OpR X (compareOp .NotIn) (λy x H Q=>∃ a o,x=.ref a/\zc H a y o/\Q (.bl (!o.isSome)) H):=by
 intro pins s σ H x y v u Q I rx ry h;obtain⟨a,o,rfl,g,q⟩:=h;cases ry;exact Lw (Jd hr) I g rx λs3 I3=>⟨.bl (!o.isSome),H,I3,rfl,q⟩
theorem o8{k:Nat}(hr:dH k X.A)(hc:X.calm=true):oE X (.type "dict") (CK X.K (.dK [])):=CN hc hr.units (.inl rfl)
end
section
variable{X:Cx}{k:Nat}{N:List Str}{scope:Scope}{cl:List (Str×Addr)}{C:Addr}{s2:Shared}{H2:Hp}{fp:List Addr}
theorem uD{X:Cx}{k:Nat}{o i:Expr}{pos:Pos}{td ty:TE}(hr:dH k X.A)(ho:PE X o td)(hi:PE X i ty)(hs:Lx i):PE X (.Subscript o i pos) (Ei td ty):=Ej (Jd hr) ho hi hs
theorem Ho{o i:Expr}{pos:Pos}{td ty:TE}(hr:dH k X.A)(ho:PE (X.comp N scope cl C s2 H2 fp) o td)(hi:PE (X.comp N scope cl C s2 H2 fp) i ty)(hs:Lx i):PE (X.comp N scope cl C s2 H2 fp) (.Subscript o i pos) (Ei td ty):=Ej (Jd hr) ho hi hs
end
section
def CR(a b c:Int):Prop:=0<=a/\a<2^30/\-(2^30)<=b/\b<2^30/\0<c/\c<2^30
noncomputable instance(a b c:Int):Decidable (CR a b c):=inferInstanceAs (Decidable (_/\_))
theorem qW{acc:Array Value}{n:Nat}(h:ItemsOf (λi v=>∃ t,v=.int (0+(i:Nat)*1) t) acc n):Vals ((List.range n).map λi=>V.int (i:Nat)) acc.toList:=by
 obtain⟨hs,hv⟩:=h;have go:∀ (l:List Value) (k:Nat),(∀ (i:Nat) v,l[i]?=some v->∃ t,v=Value.int (((k+i:Nat):Int)) t)->Vals ((List.range' k l.length).map λi=>V.int (i:Nat)) l:=by
  intro l;induction l with
  |nil=>intro k _;exact .nil
  |cons v l ih=>
   intro k h;rw[ZaK,List.range'_succ,Zal];obtain⟨t,e⟩:=h 0 v rfl;refine .cons ⟨t,by rw[e];rfl⟩ (ih (k+1) λi v hv=>?_)
   obtain⟨t,e⟩:=h (i+1) v (by simpa using hv)
   exact⟨t,by rw[e];congr 2;omega⟩
 have:=go acc.toList 0 λi v e=>by
  obtain⟨t,e2⟩:=hv i v (by simpa using e)
  exact⟨t,by rw[e2];congr 1;omega⟩
 rwa [Za6,hs,<-List.range_eq_range'] at this
end
def New(H F' H':Hp)(S:Addr->Prop):Prop:=∀ b,S b->H b=none/\F' b=none/\∃ o,H' b=some o/\∀ ys,o≠.tup ys
def MD(K:Frag)(C:Cg)(te:TE)(f:Fn PV):Prop:=
 ∀ F H σ ρ Q r,RE K C.toCf F H σ ρ->f ρ=some r->Pr C F (λp=>∀ v F' H' S,Up F H F' H'->Dp K F' H' S v p->New H F' H' S->Q v H') r->te σ H Q
def spD(K:Frag)(XR:Hp->Value->Option Addr->PV->Prop)(m:List PV->Option (Res PV)):Sp:=λvs H Q E=>∃ ps F r,aR F H/\bQ K F vs ps/\m ps=some r/\match r with
 |.ok p=>∀ v F' H' S,Up F H F' H'->Dp K F' H' S v p->New H F' H' S->Q v H'
 |.ex z=>∀ e d F' H',Up F H F' H'->XR F' e d z->E e d H'
section
variable{K:Frag}{C:Cg}{te:TE}{F F1 F2 H H1 H2:Hp}{σ:St}{ρ:Rho}{D:Ends}{t u:TS}{f g:Sn}{o:Out}{S:Addr->Prop}{v:V}{p:PV}
theorem New.up(n:New H F1 H1 S)(u:Up F1 H1 F2 H2):New H F2 H2 S:=λb q=>by
 obtain⟨n0,n1,o,n2,n3⟩:=n b q;refine⟨n0,?_,o,u.hh _ _ n2,n3⟩;cases e:F2 b with
 |none=>rfl
 |some o'=>
  rcases u.fr b o' e with z|z|⟨ys,z⟩
  ·rw[n1] at z;cases z
  ·rw[n2] at z;cases z
  ·subst z;have w:=u.fh _ _ e;rw[u.hh _ _ n2] at w;cases w;exact absurd rfl (n3 ys)
theorem Dp.stay(d:Dp K F1 H1 S v p)(u:Up F1 H1 F2 H2):Dp K F2 H2 S v p:=d.up u.ff (λb o _ q=>u.hh b o q) λb ys q=>u.hh b _ q
def xN(F H:Hp)(S:Addr->Prop):Hp:=λb=>@ite _ (S b\/∃ ys,H b=some (.tup ys)) (Classical.propDecidable _) (H b) (F b)
theorem kO{b:Addr}(h:S b\/∃ ys,H b=some (.tup ys)):xN F H S b=H b:=@if_pos _ (Classical.propDecidable _) h _ _ _
theorem jW{b:Addr}(h:¬(S b\/∃ ys,H b=some (.tup ys))):xN F H S b=F b:=@if_neg _ (Classical.propDecidable _) h _ _ _
theorem rE(s:aR F H):aR F (xN F H S):=λb o e=>by
 by_cases h:S b\/∃ ys,H b=some (.tup ys)
 ·rw[kO h];exact s b o e
 ·rw[jW h];exact e
theorem zF(s:aR F H):aR (xN F H S) H:=λb o e=>by
 by_cases h:S b\/∃ ys,H b=some (.tup ys)
 ·rw[kO h] at e;exact e
 ·rw[jW h] at e;exact s b o e
theorem uE(d:Dp K F H S v p)(s:aR F H):Rep K (xN F H S) v p:=
 d.seen (rE s) (λb o q e=>by rw[kO (.inl q)];exact e) λb ys e=>by rw[kO (.inr ⟨ys,e⟩)];exact e
theorem EY(u:Up F H F1 H1)(n:New H F1 H1 S):Up F H (xN F1 H1 S) H1 where
 ff:=u.ff.trans (rE u.fh)
 hh:=u.hh
 fr:=λb o e=>by
  by_cases h:S b\/∃ ys,H1 b=some (.tup ys)
  ·rw[kO h] at e;rcases h with h|⟨ys,h⟩
   ·exact .inr (.inl (n b h).1)
   ·rw[h] at e;cases e;exact .inr (.inr ⟨ys,rfl⟩)
  ·rw[jW h] at e;exact u.fr b o e
 fh:=zF u.fh
theorem xO{fe:Fn PV}(h:MD K C te fe):MJ K C (aF K) te fe:=λF H σ ρ Q r R e P=>
 h F H σ ρ Q r R e (Pr.mono P (aR.refl _) λp q v F' H' S u d n=>q v _ H' (EY u n) (uE d u.fh))
def Fb(fe:Fn PV):Fn PV:=λρ=>bnd (fe ρ) λp=>match p with
 |.lst l=>if l.all PV.still=true then some (.ok (.lst l)) else none
 |_=>none
theorem Sg{fe:Fn PV}(h:MO K C te fe):MD K C te (Fb fe):=by
 intro F H σ ρ Q r R e P;rcases b8 e with⟨z,e1,rfl⟩|⟨p,e1,hk⟩
 ·exact h F H σ ρ Q _ R e1 P
 ·split at hk
  ·rename_i l;split at hk
   ·rename_i hl;cases hk;refine h F H σ ρ Q _ R e1 λa F' H' u n1 n2 w=>?_;obtain⟨xs,e2,e3⟩:=w;refine P _ F' H' (λb=>b=a) u ?_ ?_
    ·refine .lst (S:=λ_ _=>False) e2 rfl (λj b q=>q.elim) (λi j b q=>q.elim) e3.1 λj x p e4 e5=>.fr (e3.2 j x p e4 e5) ?_;exact Zbd.mp hl p (ZaC e5)
    ·rintro b rfl;exact⟨n1,n2,_,e2,λys q=>by cases q⟩
   ·cases hk
  ·cases hk
theorem tu{t:TA}{fe:Fn (List PV)}{m:List PV->Option (Res PV)}(h:MA K C t fe):MD K C (ue (spD K C.XR m) [] C.E t) (bI m fe):=by
 intro F H σ ρ Q r R e P;refine h.run R e P λl xs F1 H1 hk u a=>?_;refine⟨l,F1,r,u.fh,by rw[ZaM];exact a,hk,?_⟩
 cases r with
 |ok p=>exact λv F' H' S u' d n=>P v F' H' S (u.trans u') d λb q=>⟨u.hh.free (n b q).1,(n b q).2⟩
 |ex z=>exact λe d F' H' u' x=>P e d F' H' (u.trans u').ff (R.rb.up (u.trans u')) x
def Dps(K:Frag)(F H:Hp)(S:Nat->Addr->Prop)(xs:List V)(l:List PV):Prop:=
 xs.length=l.length/\(∀ i j b,S i b->S j b->i=j)/\∀ (j:Nat) x p,xs[j]?=some x->l[j]?=some p->Dp K F H (S j) x p
def CQ(i:Nat)(ρ:Rho):Option PV:=match ρ[i]? with
 |some (some (.dp p))=>some p
 |_=>none
theorem jC{i:Nat}{p:PV}(h:CQ i ρ=some p):ρ[i]?=some (some (.dp p)):=by
 unfold CQ at h;split at h
 ·rename_i q hq;cases h;exact hq
 ·cases h
theorem RE.Tn{C:Cf}(R:RE K C F H σ ρ)(i:Nat)(u:Up F H F1 H1)(d:Dp K F1 H1 S v p)(n:New H F1 H1 S)(nw:C.nw):RE K C F1 H1 (σ.set i (some v)) (ρ.set i (some (.dp p))) where
 rb:=R.rb.up u
 len:=by simp[R.len]
 sh:=λj q e=>by
  rcases get_set e with⟨e1,e2⟩|⟨e1,e2⟩
  ·cases e2
  ·obtain⟨w,e3,e4⟩:=(R.up u).sh j q e2;exact⟨w,by rw[Zas e1];exact e3,e4⟩
 ow:=λj q e=>by
  rcases get_set e with⟨e1,e2⟩|⟨e1,e2⟩
  ·cases e2
  ·obtain⟨w,e3,e4⟩:=(R.up u).ow j q e2;exact⟨w,by rw[Zas e1];exact e3,e4⟩
 dis:=λj k q q' b e e' f f'=>by
  rcases get_set e with⟨e1,e2⟩|⟨e1,e2⟩
  ·cases e2
  ·rcases get_set e' with⟨e1',e2'⟩|⟨e1',e2'⟩
   ·cases e2'
   ·rw[Zas e1] at f;rw[Zas e1'] at f';exact R.dis j k q q' b e2 e2' f f'
 dd:=by
  obtain⟨P,d0⟩:=R.dd;have d1:=d0.up u;refine⟨λj b=>if j=i then S b else P j b,λj b q=>?_,λj k b a1 a2=>?_,λj k q b z e f=>?_,λj q e=>?_⟩
  ·by_cases hj:j=i
   ·simp only[hj,ZbA] at q;obtain⟨c1,c2,c3⟩:=n b q;exact⟨c2,c3,nw,R.rb.um c1⟩
   ·simp only[hj,Zbm] at q;exact d1.own j b q
  ·by_cases hj:j=i<;>by_cases hk:k=i
   ·rw[hj,hk]
   ·simp only[hj,hk,ZbA,Zbm] at a1 a2;obtain⟨_,⟨o,c,_⟩,_⟩:=d0.own k b a2;rw[(n b a1).1] at c;cases c
   ·simp only[hj,hk,ZbA,Zbm] at a1 a2;obtain⟨_,⟨o,c,_⟩,_⟩:=d0.own j b a1;rw[(n b a2).1] at c;cases c
   ·simp only[hj,hk,Zbm] at a1 a2;exact d0.dis j k b a1 a2
  ·rcases get_set e with⟨e1,e2⟩|⟨e1,e2⟩
   ·cases e2
   ·rw[Zas e1] at f;by_cases hj:j=i
    ·simp only[hj,ZbA] at z;exact R.apart (n b z).1 k q e2 f
    ·simp only[hj,Zbm] at z;exact d0.ow j k q b z e2 f
  ·rcases get_set e with⟨e1,e2⟩|⟨e1,e2⟩
   ·subst e1;cases e2;have:=cH e;refine⟨v,by rw[Za4 (by rw[R.len];simpa using this)],?_⟩
    simp only[ZbA];exact d
   ·obtain⟨w,e3,e4⟩:=d1.dp j q e2;refine⟨w,by rw[Zas e1];exact e3,?_⟩
    simp only[Zbp e1,Zbm];exact e4
def zG(i:Nat)(fe:Fn PV):Sn:=λρ=>kj (fe ρ) λp=>some (.nx (ρ.set i (some (.dp p))))
theorem Fd{i:Nat}{fe:Fn PV}(nw:C.nw)(h:MD K C te fe):MS K C (GD te (t7 i)) (zG i fe):=by
 intro F H σ ρ D o R e P;rcases dR e with⟨z,e1,rfl⟩|⟨p,e1,hk⟩
 ·exact h F H σ ρ _ _ R e1 P
 ·cases hk;exact h F H σ ρ _ _ R e1 λv F1 H1 S u d n=>P F1 H1 _ u.ff (R.Tn i u d n nw)
theorem RE.Tp{C:Cf}(R:RE K C F H σ ρ){i:Nat}(e:ρ[i]?=some (some (.dp p))):∃ S v,σ[i]?=some (some v)/\Dp K F H S v p/\(∀ b,S b->F b=none/\(∃ o,H b=some o/\∀ ys,o≠.tup ys)/\C.H0 b=none)/\RE K C (xN F H S) H σ (ρ.set i (some (.sh p))):=by
 obtain⟨P,d⟩:=R.dd;obtain⟨v,e1,e2⟩:=d.dp i p e;have li:=cH e;have sf:aR F (xN F H (P i)):=rE R.rb.sub;refine⟨P i,v,e1,e2,λb q=>⟨(d.own i b q).1,(d.own i b q).2.1,(d.own i b q).2.2.2⟩,⟨⟨zF R.rb.sub,R.rb.keep,λb o q=>?_,R.rb.ios⟩,by simp[R.len],λj q f=>?_,λj q f=>?_,λj k q q' b f f' g g'=>?_,?_⟩⟩
 ·by_cases h:P i b\/∃ ys,H b=some (.tup ys)
  ·rw[kO h] at q;rcases h with h|⟨ys,h⟩
   ·exact .inr (.inl (d.own i b h).2.2.2)
   ·rw[h] at q;cases q;exact .inr (.inr ⟨ys,rfl⟩)
  ·rw[jW h] at q;exact R.rb.new b o q
 ·rcases get_set f with⟨f1,f2⟩|⟨f1,f2⟩
  ·subst f1;cases f2;exact⟨v,e1,uE e2 R.rb.sub⟩
  ·obtain⟨w,g1,g2⟩:=R.sh j q f2;exact⟨w,g1,g2.up sf⟩
 ·rcases get_set f with⟨f1,f2⟩|⟨f1,f2⟩
  ·cases f2
  ·obtain⟨b,g1,g2,g3,g4⟩:=R.ow j q f2;refine⟨b,g1,g2.up sf λ_ z=>z,?_,g4⟩;rw[jW]
   ·exact g3
   ·rintro(z|⟨ys,z⟩)
    ·exact d.ow i j q b z f2 g1
    ·exact g2.Ek z
 ·rcases get_set f with⟨f1,f2⟩|⟨f1,f2⟩
  ·cases f2
  ·rcases get_set f' with⟨f1',f2'⟩|⟨f1',f2'⟩
   ·cases f2'
   ·exact R.dis j k q q' b f2 f2' g g'
 ·refine⟨λj b=>j≠i/\P j b,λj b z=>?_,λj k b a1 a2=>d.dis j k b a1.2 a2.2,λj k q b z f g=>?_,λj q f=>?_⟩
  ·obtain⟨c1,c2,c3⟩:=d.own j b z.2;refine⟨?_,c2,c3⟩;rw[jW]
   ·exact c1
   ·rintro(y|⟨ys,y⟩)
    ·exact z.1 (d.dis j i b z.2 y)
    ·obtain⟨o,c4,c5⟩:=c2;rw[y] at c4;cases c4;exact c5 ys rfl
  ·rcases get_set f with⟨f1,f2⟩|⟨f1,f2⟩
   ·cases f2
   ·exact d.ow j k q b z.2 f2 g
  ·rcases get_set f with⟨f1,f2⟩|⟨f1,f2⟩
   ·cases f2
   ·obtain⟨w,g1,g2⟩:=d.dp j q f2;refine⟨w,g1,(g2.up sf (λ_ _ _ q=>q) λ_ _ q=>q).mono λb z=>⟨Zbp f1,z⟩⟩
def Fe(fe:Fn PV):Sn:=λρ=>kj (fe ρ) λp=>some (.rd p)
theorem Ms{fe:Fn PV}(h:MD K C te fe):MS K C (GC te) (Fe fe):=by
 intro F H σ ρ D o R e P;rcases dR e with⟨z,e1,rfl⟩|⟨p,e1,hk⟩
 ·exact h F H σ ρ _ _ R e1 P
 ·cases hk;exact h F H σ ρ _ _ R e1 λv F1 H1 S u d n=>P v F1 H1 S u.ff (R.rb.up u) d λb q=>⟨(n b q).2.1,(n b q).2.2,R.rb.um (n b q).1⟩
def o9(i:Nat):Sn:=λρ=>match CQ i ρ with
 |some p=>some (.rd p)
 |none=>none
theorem zH(i:Nat):MS K C (GC (qT i)) (o9 i):=by
 intro F H σ ρ D o R e P;unfold o9 at e;split at e
 ·rename_i p hp;cases e;obtain⟨S,v,e1,e2,e3,_⟩:=R.Tp (jC hp);exact⟨_,e1,P v F H S (aR.refl _) R.rb e2 e3⟩
 ·cases e
end
section
variable{K:Frag}{C:Cg}{te:TE}{F F1 F2 H H1 H2:Hp}{σ:St}{ρ:Rho}{D:Ends}{u:TS}{f g:Sn}{o:Out}{S:Addr->Prop}{v:V}{p:PV}
theorem zJ{S:Nat->Addr->Prop}{S4:Addr->Prop}{ys:List V}{acc:List PV}{q:PV}{D:Addr}{F4 H4 H1:Hp}(h:Dps K F4 H4 S ys acc)(rm:∀ j b,S j b->j<ys.length/\b≠D/\H1 b=none/\F4 b=none/\∃ o,H4 b=some o/\∀ zs,o≠.tup zs)(eD:H4 D=some (.lst ys))(d:Dp K F4 H4 S4 v q)
  (n4:∀ b,S4 b->(F4 b=none/\∃ o,H4 b=some o/\∀ zs,o≠.tup zs)/\H1 b=none)(nd:∀ b,S4 b->b≠D)(ap:∀ j b,S j b->¬S4 b) :
  Dps K F4 (upd H4 D (.lst (ys++[v]))) (λj b=>if j=ys.length then S4 b else S j b) (ys++[v]) (acc++[q])/\(∀ j b,(if j=ys.length then S4 b else S j b)->j<(ys++[v]).length/\b≠D/\H1 b=none/\F4 b=none/\∃ o,upd H4 D (.lst (ys++[v])) b=some o/\∀ zs,o≠.tup zs):=by
 have tups:∀ b zs,H4 b=some (.tup zs)->upd H4 D (.lst (ys++[v])) b=some (.tup zs):=λb zs e=>by
  rw[aq (λz=>by subst z;rw[eD] at e;cases e)];exact e
 refine⟨⟨by simp[h.1],λi j b a1 a2=>?_,λj x p e1 e2=>?_⟩,λj b a=>?_⟩
 ·by_cases hi:i=ys.length<;>by_cases hj:j=ys.length
  ·rw[hi,hj]
  ·simp only[hi,hj,ZbA,Zbm] at a1 a2;exact absurd a1 (ap j b a2)
  ·simp only[hi,hj,ZbA,Zbm] at a1 a2;exact absurd a2 (ap i b a1)
  ·simp only[hi,hj,Zbm] at a1 a2;exact h.2.1 i j b a1 a2
 ·by_cases hj:j<ys.length
  ·rw[Zav hj] at e1;rw[Zav (by rw[<-h.1];exact hj)] at e2
   simp only[show ¬j=ys.length by omega,Zbm]
   exact(h.2.2 j x p e1 e2).up (aR.refl _) (λb o z e=>by rw[aq (rm j b z).2.1];exact e) tups
  ·rw[Zaw (by omega)] at e1
   rw[Zaw (by rw[<-h.1];omega)] at e2
   have ej:j=ys.length:=by
    have:=cH e1;simp at this;omega
   rw[ej,ZbO] at e1;rw[ej,h.1,ZbO] at e2;cases e1;cases e2;simp only[ej,ZbA];exact d.up (aR.refl _) (λb o z e=>by rw[aq (nd b z)];exact e) tups
 ·by_cases hj:j=ys.length
  ·simp only[hj,ZbA] at a;obtain⟨⟨c1,o,c2,c3⟩,c4⟩:=n4 b a;exact⟨by simp;omega,nd b a,c4,c1,o,by rw[aq (nd b a)];exact c2,c3⟩
  ·simp only[hj,Zbm] at a;obtain⟨c0,c1,c2,c3,o,c4,c5⟩:=rm j b a;exact⟨by simp;omega,c1,c2,c3,o,by rw[aq c1];exact c4,c5⟩
theorem JT{wi:TI}{it:Fn (List PV)}{fr:List (Option Nat)}{gt:TG}{tg:PV->Rho->Option Rho}{T:List Nat}{tc:TT}{tst:Fn Bool}{el:Fn PV}(hi:MIH K C wi it)(hg:MG K C gt tg)(hT:Wr T tg)(ht:MT K C tc tst)(he:MD K C te el)
  (hfr:T.all (λj=>fr[j]?==some none)=true:=by rfl):MD K C (ug wi fr gt tc te) (gf it fr tg tst el):=by
 intro F H σ ρ Q r R e P;rcases b8 e with⟨z,e1,rfl⟩|⟨l,e1,hk⟩
 ·exact hi F H σ ρ _ _ R e1 P
 split at hk
 case isFalse=>cases hk
 rename_i hlen;refine hi F H σ ρ _ _ R e1 λJ F1 H1 u hJ D hD=>?_;have R1:=R.up u;obtain⟨Rb,no⟩:=R1.block fr;have hD0:C.H0 D=none:=R1.rb.um hD;have hFD:F1 D=none:=u.fh.free hD;have hρ:∀ (j:Nat),j∈T->(frR fr ρ)[j]?=some none:=λj hj=>by
  have:=Zbd.mp hfr j hj;unfold frR;rw[Zac,show fr[j]?=some none by simpa using this]
  rfl
 refine⟨λi m σ' H'=>∃ F' ys acc S,m=l.length-i/\i<=l.length/\aR F1 F'/\(∀ b o,F' b=some o->F1 b=some o\/Frz H1 b o)/\aR H1 H'/\H' D=some (.lst ys)/\F' D=none/\Dps K F' H' S ys acc/\(∀ j b,S j b->j<ys.length/\b≠D/\H1 b=none/\F' b=none/\∃ o,H' b=some o/\∀ zs,o≠.tup zs)/\acc.length<=i /\
   RE K C.toCf F' H' σ' (frR fr ρ)/\bnd (dB tg tst el (frR fr ρ) (l.drop i)) (λr=>some (.ok (.lst (acc++r))))=some r,
  ⟨l.length,F1,[],[],λ_ _=>False,by simp,Zbb _,aR.refl _,λ_ _ q=>.inl q,eG hD,aK,hFD,⟨rfl,λ_ _ _ q=>q.elim,λj x p e=>by simp at e⟩,λ_ _ q=>q.elim,Zag _,Rb.other hFD hD0 no,by rw[Zbe];exact hk⟩,?_⟩
 rintro i m σ' H' ⟨F',ys,acc,S,rfl,hil,s1,fr1,sH,eD,nD,ra,rm,hacc,R',e'⟩;by_cases hlt:i<l.length
 case neg=>
  have ei:i=l.length:=by omega
  subst ei;rw[List.drop_length] at e';have e':some (Res.ok (PV.lst (acc++[])))=some r:=e';rw[ZaM] at e';cases e';refine .inl ⟨hJ.stop F' H' s1 R'.rb.sub sH,P (.ref D) F' H' (λb=>b=D\/∃ j,S j b) (u.trans ⟨s1,sH,fr1,R'.rb.sub⟩) (.lst eD (.inl rfl) (λj b q=>⟨.inr ⟨j,q⟩,(rm j b q).2.1⟩) ra.2.1 ra.1 ra.2.2) ?_⟩;rintro b (rfl|⟨j,q⟩)
  ·exact⟨u.hh.free hD,nD,_,eD,λzs q=>by cases q⟩
  ·obtain⟨_,_,c1,c2,c3⟩:=rm j b q;exact⟨u.hh.free c1,c2,c3⟩
 refine .inr ⟨hJ.go i F' H' hlt s1 R'.rb.sub sH,λσ2 H2=>∃ F2 ys acc S,aR F1 F2/\(∀ b o,F2 b=some o->F1 b=some o\/Frz H1 b o)/\aR H1 H2/\H2 D=some (.lst ys)/\F2 D=none/\Dps K F2 H2 S ys acc/\(∀ j b,S j b->j<ys.length/\b≠D/\H1 b=none/\F2 b=none/\∃ o,H2 b=some o/\∀ zs,o≠.tup zs)/\acc.length<=i+1 /\
   RE K C.toCf F2 H2 σ2 (frR fr ρ)/\bnd (dB tg tst el (frR fr ρ) (l.drop (i+1))) (λr=>some (.ok (.lst (acc++r))))=some r,
  λσ2 H2 ⟨F2,ys,acc,S,z⟩=>⟨l.length-(i+1),by omega,F2,ys,acc,S,rfl,hlt,z⟩,λx H'' y=>?_⟩
 obtain⟨F'',p,u2,ep,rx⟩:=hJ.yld i F' H' x H'' hlt s1 R'.rb.sub sH y;have ed:l.drop i=p::l.drop (i+1):=by
  rw[ZaR hlt];rw[Zaa hlt] at ep;rw[Zad ep]
 rw[ed,dB] at e';split at e'
 ·cases e'
 rename_i ρ1 h1;obtain⟨w1,w2,w3⟩:=hT p _ ρ1 h1;have no1:=w3 no;have weak:∀ (j:Nat) s,(frR fr ρ)[j]?=some (some s)->ρ1[j]?=some (some s):=λj s ej=>by
  rw[w2 j λz=>by rw[hρ j z] at ej;cases ej];exact ej
 refine hg F'' H'' σ' (frR fr ρ) x p ρ1 _ (R'.up u2) rx h1 λσ1 R1'=>?_;have stay:∀ {F3 H3:Hp},Up F' H' F3 H3->aR F1 F3/\(∀ b o,F3 b=some o->F1 b=some o\/Frz H1 b o)/\aR H1 H3/\H3 D=some (.lst ys)/\F3 D=none/\Dps K F3 H3 S ys acc/\(∀ j b,S j b->j<ys.length/\b≠D/\H1 b=none/\F3 b=none/\∃ o,H3 b=some o/\∀ zs,o≠.tup zs):=λ{F3 H3} u3=>by
  refine⟨s1.trans u3.ff,λb o q=>?_,sH.trans u3.hh,u3.hh _ _ eD,?_,⟨ra.1,ra.2.1,λj x p c1 c2=>(ra.2.2 j x p c1 c2).stay u3⟩,λj b q=>?_⟩
  ·rcases u3.fr b o q with z|z
   ·exact fr1 b o z
   ·exact .inr (z.imp (λz=>sH.free z) id)
  ·cases q:F3 D with
   |none=>rfl
   |some o=>
    rcases u3.fr D o q with z|z|⟨ys,z⟩
    ·rw[nD] at z;cases z
    ·rw[eD] at z;cases z
    ·subst z;have w:=u3.fh _ _ q;rw[u3.hh _ _ eD] at w;cases w
  ·obtain⟨c0,c1,c2,c3,c4⟩:=rm j b q;have nn:New H1 F' H' (S j):=λb q=>(rm j b q).2.2;exact⟨c0,c1,(nn.up u3) b q⟩
 have Pl:∀ {F3 H3:Hp},Up F' H' F3 H3->∀ {z:PV},r=.ex z->PX C F3 z:=λ{F3 H3} u3 {z} ez=>by
  subst ez;exact PX.up P (u.ff.trans (s1.trans u3.ff))
 rcases b8 e' with⟨z,e2,rfl⟩|⟨r0,e2,e3⟩
 ·
  rcases b8 e2 with⟨z',e4,ez⟩|⟨b,e4,e5⟩
  ·cases ez;exact ht F'' H'' σ1 ρ1 _ _ R1' e4 (Pl u2 rfl)
  ·refine ht F'' H'' σ1 ρ1 _ _ R1' e4 λF3 H3 u3=>?_;have u23:=u2.trans u3;cases b with
   |false=>
    rw[Zai (by decide)] at e5 ⊢
    obtain⟨a1,a2,a3,a4,a5,a6,a7⟩:=stay u23;exact⟨F3,ys,acc,S,a1,a2,a3,a4,a5,a6,a7,by omega,(R1'.up u3).weak w1.symm weak,by rw[e5];rfl⟩
   |true=>
    rw[Zah rfl] at e5 ⊢;rcases b8 e5 with⟨z',e6,ez⟩|⟨q,e6,e7⟩
    ·cases ez;exact he F3 H3 σ1 ρ1 _ _ (R1'.up u3) e6 (Pl u23 rfl)
    ·refine he F3 H3 σ1 ρ1 _ _ (R1'.up u3) e6 λv F4 H4 S4 u4 rv n4=>?_;have u24:=u23.trans u4;obtain⟨_,_,_,_,_,_,a7s⟩:=stay u23;obtain⟨a1,a2,a3,a4,a5,a6,a7⟩:=stay u24;rcases b8 e7 with⟨z',e8,ez⟩|⟨rr,e8,e9⟩
     ·cases ez;obtain⟨b1,b2⟩:=zJ a6 a7 a4 rv (λb z=>⟨(n4 b z).2,((sH.trans u23.hh).free (n4 b z).1)⟩) (λb z=>by intro e;subst e;have c:=(n4 b z).1;rw[u23.hh _ _ eD] at c;cases c) (λj b z z'=>by obtain⟨_,_,_,_,o,c,_⟩:=a7s j b z;have c':=(n4 b z').1;rw[c] at c';cases c')
      refine⟨ys,a4,by rw[a6.1];omega,F4,ys++[v],acc++[q],_,a1,a2,qY hD a3,aK,a5,b1,b2,by simp;omega,((R1'.up (u3.trans u4)).other a5 hD0 no1).weak w1.symm weak,?_⟩
      rw[e8];rfl
     ·cases e9
 ·rcases b8 e2 with⟨z',e4,ez⟩|⟨b,e4,e5⟩
  ·cases ez
  ·refine ht F'' H'' σ1 ρ1 _ _ R1' e4 λF3 H3 u3=>?_;have u23:=u2.trans u3;cases b with
   |false=>
    rw[Zai (by decide)] at e5 ⊢
    obtain⟨a1,a2,a3,a4,a5,a6,a7⟩:=stay u23;exact⟨F3,ys,acc,S,a1,a2,a3,a4,a5,a6,a7,by omega,(R1'.up u3).weak w1.symm weak,by rw[e5];exact e3⟩
   |true=>
    rw[Zah rfl] at e5 ⊢;rcases b8 e5 with⟨z',e6,ez⟩|⟨q,e6,e7⟩
    ·cases ez
    ·refine he F3 H3 σ1 ρ1 _ _ (R1'.up u3) e6 λv F4 H4 S4 u4 rv n4=>?_;have u24:=u23.trans u4;obtain⟨_,_,_,_,_,_,a7s⟩:=stay u23;obtain⟨a1,a2,a3,a4,a5,a6,a7⟩:=stay u24;rcases b8 e7 with⟨z',e8,ez⟩|⟨rr,e8,e9⟩
     ·cases ez
     ·cases e9;obtain⟨b1,b2⟩:=zJ a6 a7 a4 rv (λb z=>⟨(n4 b z).2,((sH.trans u23.hh).free (n4 b z).1)⟩) (λb z=>by intro e;subst e;have c:=(n4 b z).1;rw[u23.hh _ _ eD] at c;cases c) (λj b z z'=>by obtain⟨_,_,_,_,o,c,_⟩:=a7s j b z;have c':=(n4 b z').1;rw[c] at c';cases c')
      refine⟨ys,a4,by rw[a6.1];omega,F4,ys++[v],acc++[q],_,a1,a2,qY hD a3,aK,a5,b1,b2,by simp;omega,((R1'.up (u3.trans u4)).other a5 hD0 no1).weak w1.symm weak,?_⟩
      rw[e8];show some (Res.ok (PV.lst (acc++[q]++rr)))=some r
      rw[Zar];exact e3
theorem Mt{wi:TI}{it:Fn (List PV)}{fr:List (Option Nat)}{gt:TG}{tg:PV->Rho->Option Rho}{T:List Nat}{tc:TT}{tst:Fn Bool}{el:Fn PV}(hi:MI K C wi it)(hg:MG K C gt tg)(hT:Wr T tg)(ht:MT K C tc tst)(he:MD K C te el)
  (hfr:T.all (λj=>fr[j]?==some none)=true:=by rfl):MD K C (ug wi fr gt tc te) (gf it fr tg tst el):=JT hi.h hg hT ht he hfr
theorem Dp.cF{l:List PV}(d:Dp K F H S v (.lst l)):∃ (T:Nat->Addr->Prop) (a:Addr) (xs:List V),v=.ref a/\H a=some (.lst xs)/\S a/\(∀ j b,T j b->S b/\b≠a)/\Dps K F H T xs l:=by
 cases d with
 |fr h st=>cases st
 |lst h hp hs dj hl hr=>exact⟨_,_,_,rfl,h,hp,hs,hl,dj,hr⟩
theorem RE.JV{C:Cf}(R:RE K C F H σ ρ){P:Nat->Addr->Prop}(d:RD K C F H σ ρ P){i:Nat}(e:ρ[i]?=some (some (.dp p)))(e1:σ[i]?=some (some v)){a:Addr}{ob:HO}(ha:P i a)(ho:∀ ys,ob≠.tup ys){p':PV}{S':Addr->Prop}
  (hd:Dp K F (upd H a ob) S' v p')(hS:∀ b,S' b->P i b\/(F b=none/\(∃ o,H b=some o/\∀ ys,o≠.tup ys)/\C.nw/\C.H0 b=none/\(∀ j,¬P j b)/\∀ (j:Nat) q,ρ[j]?=some (some (.ow q))->σ[j]?≠some (some (.ref b)))) :
  RE K C F (upd H a ob) σ (ρ.set i (some (.dp p'))):=by
 obtain⟨c1,⟨oa,c2,c3⟩,c4,c5⟩:=d.own i a ha;have hio:¬C.io a:=λz=>(R.rb.ios a z).2 c5;refine⟨⟨λb o q=>by rw[aq (λz=>by subst z;rw[c1] at q;cases q)];exact R.rb.sub b o q,λb o q z=>by rw[aq (λy=>by subst y;rw[c5] at q;cases q)];exact R.rb.keep b o q z,R.rb.new,λb z=>?_⟩,by simp[R.len],λj q f=>?_,λj q f=>?_,λj k q q' b f f' g g'=>?_,?_⟩
 ·refine⟨?_,(R.rb.ios b z).2⟩;rw[aq (λy=>by subst y;exact hio z)];exact(R.rb.ios b z).1
 ·rcases get_set f with⟨f1,f2⟩|⟨f1,f2⟩
  ·cases f2
  ·exact R.sh j q f2
 ·rcases get_set f with⟨f1,f2⟩|⟨f1,f2⟩
  ·cases f2
  ·obtain⟨b,g1,g2,g3,g4⟩:=R.ow j q f2;have nb:b≠a:=λz=>by subst z;exact d.ow i j q b ha f2 g1
   refine⟨b,g1,?_,g3,g4⟩;cases q with
   |lst l=>obtain⟨xs,k1,k2⟩:=g2;exact⟨xs,by rw[aq nb];exact k1,k2⟩
   |dk l=>obtain⟨xs,k1,k2⟩:=g2;exact⟨xs,by rw[aq nb];exact k1,k2⟩
   |dt l=>obtain⟨xs,k1,k2⟩:=g2;exact⟨xs,by rw[aq nb];exact k1,k2⟩
   |_=>exact g2.elim
 ·rcases get_set f with⟨f1,f2⟩|⟨f1,f2⟩
  ·cases f2
  ·rcases get_set f' with⟨f1',f2'⟩|⟨f1',f2'⟩
   ·cases f2'
   ·exact R.dis j k q q' b f2 f2' g g'
 ·have up:∀ b o,H b=some o->(∀ ys,o≠.tup ys)->∃ o',upd H a ob b=some o'/\∀ ys,o'≠.tup ys:=λb o q z=>by
   by_cases h:b=a
   ·subst h;exact⟨ob,aK,ho⟩
   ·exact⟨o,by rw[aq h];exact q,z⟩
  refine⟨λj b=>if j=i then S' b else P j b,λj b z=>?_,λj k b a1 a2=>?_,λj k q b z f g=>?_,λj q f=>?_⟩
  ·by_cases hj:j=i
   ·simp only[hj,ZbA] at z;rcases hS b z with w|⟨w1,⟨o,w2,w2'⟩,w3,w4,_⟩
    ·obtain⟨k1,⟨o,k2,k3⟩,k4⟩:=d.own i b w;exact⟨k1,up b o k2 k3,k4⟩
    ·exact⟨w1,up b o w2 w2',w3,w4⟩
   ·simp only[hj,Zbm] at z;obtain⟨k1,⟨o,k2,k3⟩,k4⟩:=d.own j b z;exact⟨k1,up b o k2 k3,k4⟩
  ·by_cases hj:j=i<;>by_cases hk:k=i
   ·rw[hj,hk]
   ·simp only[hj,hk,ZbA,Zbm] at a1 a2;rcases hS b a1 with w|⟨_,_,_,_,w,_⟩
    ·rw[hj];exact d.dis i k b w a2
    ·exact absurd a2 (w k)
   ·simp only[hj,hk,ZbA,Zbm] at a1 a2;rcases hS b a2 with w|⟨_,_,_,_,w,_⟩
    ·rw[hk];exact d.dis j i b a1 w
    ·exact absurd a1 (w j)
   ·simp only[hj,hk,Zbm] at a1 a2;exact d.dis j k b a1 a2
  ·rcases get_set f with⟨f1,f2⟩|⟨f1,f2⟩
   ·cases f2
   ·by_cases hj:j=i
    ·simp only[hj,ZbA] at z;rcases hS b z with w|⟨_,_,_,_,_,w⟩
     ·exact d.ow i k q b w f2 g
     ·exact w k q f2 g
    ·simp only[hj,Zbm] at z;exact d.ow j k q b z f2 g
  ·rcases get_set f with⟨f1,f2⟩|⟨f1,f2⟩
   ·subst f1;cases f2;refine⟨v,e1,?_⟩;simp only[ZbA];exact hd
   ·obtain⟨w,g1,g2⟩:=d.dp j q f2;refine⟨w,g1,?_⟩;simp only[Zbp f1,Zbm];refine g2.up (aR.refl _) (λb o z q=>?_) λb ys q=>?_
    ·rw[aq (λy=>by subst y;exact f1 (d.dis i j b ha z))];exact q
    ·rw[aq (λy=>by subst y;rw[c2] at q;cases q;exact c3 ys rfl)];exact q
end
section
variable{K:Frag}{F H:Hp}{o:Out}{S:Addr->Prop}{v:V}{p:PV}
theorem Dp.snoc{b:Addr}{T:Nat->Addr->Prop}{ys:List V}{row:List PV}{q:PV}(e:H b=some (.lst ys))(sb:S b)(ht:∀ j c,T j c->S c/\c≠b)(d:Dps K F H T ys row)(r:Rep K F v q)(st:q.still=true):Dp K F (upd H b (.lst (ys++[v]))) S (.ref b) (.lst (row++[q])):=by
 refine .lst (S:=λj c=>j<ys.length/\T j c) aK sb (λj c z=>ht j c z.2) (λi j c z z'=>d.2.1 i j c z.2 z'.2) (by simp[d.1]) λj x p e1 e2=>?_
 by_cases hj:j<ys.length
 ·rw[Zav hj] at e1;rw[Zav (by rw[<-d.1];exact hj)] at e2
  refine((d.2.2 j x p e1 e2).up (aR.refl _) (λc o z e=>by rw[aq (ht j c z).2];exact e) λc zs e'=>?_).mono λc z=>⟨hj,z⟩
  rw[aq (λw=>by subst w;rw[e] at e';cases e')];exact e'
 ·rw[Zaw (by omega)] at e1
  rw[Zaw (by rw[<-d.1];omega)] at e2
  have ej:j=ys.length:=by
   have:=cH e1;simp at this;omega
  rw[ej,ZbO] at e1;rw[ej,d.1,ZbO] at e2;cases e1;cases e2;exact .fr r st
end
def vD:Option Out->Option (Res PV)
 |some (.rd p)=>some (.ok p)
 |some (.ex z)=>some (.ex z)
 |_=>none
section
variable{K:Frag}{XR:Hp->Value->Option Addr->PV->Prop}{N:List Str}{vs:List V}{H:Hp}{Q:VK}{E:XK}{t:TS}{b:Sn}{m:List PV->Option (Res PV)}
theorem Ff{k n:Nat}(hk:N.length=k+n)(hm:∀ ps r,m ps=some r->ps.length=k/\vD (b (startR ps n))=some r)(h:spD K XR0 m vs H Q E)(hS:∀ (io:Addr->Prop) (H0 F0:Hp),(∀ a,¬io a)->MS K (C0 io H0 F0) t b) :
  t { nx:=λ_ H'=>Q .non H',rt:=Q } (start N vs) H:=by
 obtain⟨ps,F,r,s,rp,e,P⟩:=h;obtain⟨hl,e⟩:=hm ps r e;have R:=jo (E:=E0) (N:=N) (n:=n) s rp (by rw[rp.1,hl];exact hk)
 have up:∀ {F' H':Hp},aR F F'->RB ⟨λ_=>False,True,H,F,E0⟩ F' H'->Up F H F' H':=λs' rb=>⟨s',λc o q=>rb.keep c o q id,rb.new,rb.sub⟩;have M:=hS (λ_=>False) H F (λ_ h=>h);cases ho:b (startR ps n) with
 |none=>rw[ho] at e;cases e
 |some o=>
  rw[ho] at e;refine M F H _ _ _ o R ho ?_;cases o with
  |rd p=>cases e;exact λv F' H' S s' rb d n=>P v F' H' S (up s' rb) d λb q=>⟨(n b q).2.2,(n b q).1,(n b q).2.1⟩
  |ex z=>exact λ_ _ _ _ _ _ x=>x.elim
  |nx ρ=>cases e
  |rt p=>cases e
  |ro p=>cases e
  |bk ρ=>cases e
  |ct ρ=>cases e
theorem xP(h:spD K XR m vs H Q E){k:Nat}(hm:∀ ps r,m ps=some r->ps.length=k):vs.length=k:=by
 obtain⟨ps,F,r,s,rp,e,P⟩:=h;rw[rp.1];exact hm ps r e
end
end L2.MP
namespace L2
open PySem PySem.Spec PyProof PyProof.Rows
namespace MP
end MP
def jX:HO->Prop
 |.dK _=>True
 |.dT _=>True
 |_=>False
section
variable{X:Cx}{pins:List (Addr×Obj)}{σ:St}{H:Hp}{s:Shared}{a:Addr}{u:HO}{raw:Obj}
theorem jX.mut(hu:jX u)(e:H a=some u):Mut (H a):=by
 rw[e];cases u<;>first|trivial|exact hu.elim
theorem Qx(I:Inv X pins σ H s)(e:H a=some u)(hu:jX u):∃ raw,s.heap.get? a=some raw:=by
 have:=I.hok a u e;cases u with
 |dK kvs=>obtain⟨_,_,_,_,o,es,ep,h1,_⟩:=this;exact⟨o,h1⟩
 |dT kvs=>obtain⟨_,_,_,_,o,es,ep,h1,_⟩:=this;exact⟨o,h1⟩
 |_=>exact hu.elim
theorem Inv.hold(I:Inv X pins σ H s)(e:H a=some u)(hu:jX u):∃ raw,s.heap.get? a=some raw/\Inv X pins σ (upd H a (.frz raw u)) s:=by
 obtain⟨raw,hr⟩:=Qx I e hu;refine⟨raw,hr,I.write (t':=s.toks) (h':=s.heap) (hu.mut e) (.inl rfl) (λb o _ q=>q) ⟨raw,hr⟩ ⟨hr,?_⟩⟩;refine(I.hok a u e).stay (λb o _ q=>q) (λb q=>?_) (λb xs q=>?_) (λb ob q=>?_)
 ·rw[aq (λz=>by subst z;rw[e] at q;cases q;exact hu)];exact q
 ·rw[aq (λz=>by subst z;rw[e] at q;cases q;exact hu)];exact q
 ·rw[aq (λz=>by subst z;rw[e] at q;cases q;exact hu)];exact q
theorem Inv.loose(I:Inv X pins σ H s)(e:H a=some (.frz raw u))(hu:jX u)(h0:∀ o v,X.H₀ a≠some (.frz o v)):Inv X pins σ (upd H a u) s where
 ok:=I.ok
 os:=I.os
 bare:=I.bare
 base:={
  keep:=I.base.keep
  slot:=I.base.slot
  free:=λb o q n hx=>by
   have:=I.base.free b o q n hx;rw[aq (λz=>by subst z;rw[e] at this;cases this)];exact this
  there:=I.base.there
  tups:=λb xs q=>by
   have:=I.base.tups b xs q;rw[aq (λz=>by subst z;rw[e] at this;cases this)];exact this
  frzs:=λb o v q=>by
   rw[aq (λz=>by subst z;exact h0 o v q)];exact I.base.frzs b o v q
  tbls:=λb ps q=>by
   obtain⟨more,r⟩:=I.base.tbls b ps q;exact⟨more,by rw[aq (λz=>by subst z;rw[e] at r;cases r)];exact r⟩ }
 loc:=I.loc
 cell:=I.cell
 free:=by rw[aq (λz=>by have:=I.free;rw[z,e] at this;cases this)];exact I.free
 freeC:=λx c q=>by
  have:=I.freeC x c q;rw[aq (λz=>by subst z;rw[e] at this;cases this)];exact this
 pin:=λp hp=>by
  obtain⟨p1,p2,p3⟩:=I.pin p hp;exact⟨p1,by rw[aq (λz=>by rw[z,e] at p2;cases p2)];exact p2,p3⟩
 hok:=λb o q=>by
  have ho:∀ c y,H c=some (.own y)->upd H a u c=some (.own y):=λc y r=>by rw[aq (λz=>by subst z;rw[e] at r;cases r)];exact r
  have ht:∀ c xs,H c=some (.tup xs)->upd H a u c=some (.tup xs):=λc xs r=>by rw[aq (λz=>by subst z;rw[e] at r;cases r)];exact r
  by_cases hb:b=a
  ·subst hb;rw[aK] at q;cases q;exact(I.hok b _ e).2.stay (λ_ _ _ q=>q) (λc r=>ho c b r) ht (λc ob r=>by rw[aq (λz=>by subst z;rw[e] at r;cases r;exact hu)];exact r)
  ·rw[aq hb] at q;exact(I.hok b o q).stay (λ_ _ _ q=>q) (λc r=>ho c b r) ht (λc ob r=>by rw[aq (λz=>by subst z;rw[e] at r;cases r;exact hu)];exact r)
 len:=I.len
def Ends.loose(D:Ends)(a:Addr)(raw:Obj)(u:HO):Ends where
 nx:=λσ H=>H a=some (.frz raw u)/\D.nx σ (upd H a u)
 bk:=λσ H=>H a=some (.frz raw u)/\D.bk σ (upd H a u)
 ct:=λσ H=>H a=some (.frz raw u)/\D.ct σ (upd H a u)
 rt:=λv H=>H a=some (.frz raw u)/\D.rt v (upd H a u)
def O3(i:Nat)(t:TS):TS:=λD σ H=>∃ a u,σ[i]?=some (some (.ref a))/\jX u/\(((∃ raw,H a=some (.frz raw u))/\t D σ H)\/(H a=some u/\∀ raw,t (D.loose a raw u) σ (upd H a (.frz raw u))))
theorem Fg{st:Stmt}{t:TS}(i:Nat)(h:PS X st t):PS X st (O3 i t):=by
 intro pins s σ H D I q;obtain⟨a,u,_,hu,⟨_,q⟩|⟨e,q⟩⟩:=q
 ·exact h pins s σ H D I q
 ·have h0:∀ o v,X.H₀ a≠some (.frz o v):=λo v z=>by
   have:=I.base.frzs a o v z;rw[e] at this;cases this;exact hu
  obtain⟨raw,_,I2⟩:=I.hold e hu;refine thn (h pins s σ _ _ I2 (q raw)) λf s' r=>?_;cases f with
  |next=>obtain⟨σ',H',I',e',r⟩:=r;exact⟨σ',_,I'.loose e' hu h0,r⟩
  |brk=>obtain⟨σ',H',I',e',r⟩:=r;exact⟨σ',_,I'.loose e' hu h0,r⟩
  |cont=>obtain⟨σ',H',I',e',r⟩:=r;exact⟨σ',_,I'.loose e' hu h0,r⟩
  |ret w=>obtain⟨v,σ',H',I',rv,e',r⟩:=r;exact⟨v,σ',_,I'.loose e' hu h0,rv,r⟩
end
def Itd(a:Addr)(raw:Obj)(kvs:List (Key×V)):It:=
 ⟨λi H=>H a=some (.frz raw (.dK kvs))/\i<kvs.length,λi H x H'=>H'=H/\∃ kv,kvs[i]?=some kv/\x=kV kv.1,λi H=>H a=some (.frz raw (.dK kvs))/\i=kvs.length⟩
theorem xQ{P:Program}{w:World}{k:Key}{u:Value}(h:(bR P w).is k u=true):RelV (kV k) u:=by
 rcases cW h with⟨i,t,rfl,rfl⟩|⟨x,t,rfl,rfl⟩
 ·exact⟨t,rfl⟩
 ·exact⟨t,rfl⟩
theorem nO{P:Program}{w:World}{H:Hp}{h:Heap}{a:Addr}{raw:Obj}{kvs:List (Key×V)}(ok:HOk P w H h)(e:H a=some (.frz raw (.dK kvs))){es:Array DictEntry}{ep:Nat}(hd:raw.data=.dict es ep):(a==sysModules)=false/\∃ vs,KV kvs vs/\h.DictAt (bR P w) a vs ep:=by
 obtain⟨hr,_,hs,vs,kv,o,es',ep',h1,h2,h3,h4⟩:=(show dg P w H h a (.frz raw (.dK kvs)) from ok a _ e);rw[hr] at h1;cases h1;rw[hd] at h3;cases h3;exact⟨hs,vs,kv,raw,es,hr,h2,hd,h4⟩
theorem Hq{P:Program}{w:World}{K:Frag}{tg:Expr}(a it:Addr)(raw:Obj)(kvs:List (Key×V)){es:Array DictEntry}{ep:Nat}(hd:raw.data=.dict es ep) :
  Turn P w K tg (Itd a raw kvs) [it] it (λi h=>h.IsKeyIter it a i kvs.length ep) where
 mem:=by simp
 obj:=λi h st b hb=>by
  have e:b=it:=by simpa using hb
  subst e;obtain⟨o,e,c,d⟩:=st;exact⟨o,e,λv z=>by rw[d] at z;cases z⟩
 keep:=λi h h' st k=>st.at λo q=>k it (by simp) o q
 item:=by
  intro X hP hw hK hc i pins s σ H E I hf st hg;subst hP hw hK;obtain⟨e,hi⟩:=hg;obtain⟨f0,f1,f2,f3,f4,f5⟩:=hf it (by simp)
  obtain⟨_,vs,kv,dd⟩:=nO I.hok e hd;have hl:=kv.length;have hne:a≠it:=λz=>by subst z;rw[e] at f0;cases f0
  have W:=Walks.dictKeys (prog:=X.prog) (w:=X.w) (A:=X.A) (knd:=bR X.prog X.w) (I.ok.hd hc) it a hne vs ep;refine W.item i s _ _ (by omega) ⟨by rw[<-hl];exact st,dd⟩ λv h' tk hv st' kk=>?_
  obtain⟨k,x,hx,hk⟩:=hv;have I1:Inv X pins σ H { s with heap:=h',toks:=tk }:=I.turned (λb o hb e=>kk b o (by simpa using hb) e) f0 f1 f3 f4 f5
  obtain⟨o,eo,cc,dd'⟩:=id st'.1;obtain⟨p,hp⟩:∃ p,kvs[i]?=some p:=⟨_,Zaa hi⟩;have ek:p.1=k:=by
   have h1:(kvs.map (·.1))[i]?=some p.1:=by rw[Zac,hp];rfl
   have h2:(vs.map (·.1))[i]?=some k:=by rw[Zac,hx];rfl
   rw[kv.keys,h2] at h1;exact(Zad h1).symm
  refine⟨_,rfl,yP (s:={ s with heap:=h',toks:=tk }) eo cc dd' (by decide) ⟨kV p.1,H,I1,by rw[ek];exact xQ hk,⟨rfl,p,hp,rfl⟩,by rw[hl];exact st'.1,λb hb=>(hf b hb).1⟩⟩
 done:=by
  intro X hP hw hK hc i pins s σ H E I hf st hg;subst hP hw hK;obtain⟨e,hi⟩:=hg;obtain⟨f0,f1,f2,f3,f4,f5⟩:=hf it (by simp)
  obtain⟨_,vs,kv,dd⟩:=nO I.hok e hd;have hl:=kv.length;have hne:a≠it:=λz=>by subst z;rw[e] at f0;cases f0
  have W:=Walks.dictKeys (prog:=X.prog) (w:=X.w) (A:=X.A) (knd:=bR X.prog X.w) (I.ok.hd hc) it a hne vs ep;subst hi;refine W.done s _ _ ⟨by rw[<-hl];exact st,dd⟩ λh' tk kk=>⟨rfl,I.turned (λb o hb e=>kk b o (by simpa using hb) e) f0 f1 f3 f4 f5⟩
 self:=λA i s Q E st h=>wpAny_pyIter_keyiter st h
def O4(tl:TE):TI:=λσ H R=>tl σ H λx H1=>∃ a raw kvs,x=.ref a/\H1 a=some (.frz raw (.dK kvs))/\R (Itd a raw kvs) H1
theorem Fi{X:Cx}{tg l:Expr}{tl:TE}(hl:PE X l tl):PI X tg l (O4 tl):=by
 intro pins s σ H R I h;refine thn (hl pins s σ H _ I h) ?_;rintro v s1 ⟨x,H1,I1,r1,q1⟩;obtain⟨a,raw,kvs,e,ha,q⟩:=q1;subst e;cases r1;obtain⟨es,ep,hd⟩:∃ es ep,raw.data=.dict es ep:=by
  obtain⟨hr,_,hs,vs,kv,o,es',ep',h1,h2,h3,h4⟩:=(show dg X.prog X.w H1 s1.heap a (.frz raw (.dK kvs)) from I1.hok a _ ha);rw[hr] at h1;cases h1;exact⟨_,_,h3⟩
 obtain⟨hs,vs,kv,dd⟩:=nO I1.hok ha hd;refine wpAny_pyIter_dict hs dd ?_;refine⟨s1.heap.objs.size,[s1.heap.objs.size],_,_,H1,rfl,I1.kept (t':=s1.toks) λb o e=>Zaf _ e,Hq a _ raw kvs hd,⟨_,Zax _ rfl,rfl,by rw[kv.length];rfl⟩,λb hb=>?_,q⟩
 have e:b=s1.heap.objs.size:=by simpa using hb
 subst e;exact I1.t8 (Zag _) (I1.hok.fresh (Zag _))
end L2
namespace L2.MP
open PySem PySem.Spec PyProof.Rows
structure Sw(F F':Hp)(a:Addr)(u:HO):Prop where
 ne:∀ b,b≠a->F' b=F b
 l:Rd F a u
 r:Rd F' a u
 d:jX u
section
variable{K:Frag}{F F' H H':Hp}{a:Addr}{u:HO}{v:V}{p:PV}
theorem Sw.other(w:Sw F F' a u){b:Addr}{o:HO}(e:F b=some o)(h1:¬jX o)(h2:∀ raw x,jX x->o≠.frz raw x):F' b=some o:=by
 rw[w.ne b λz=>?_]
 ·exact e
 ·subst z;rcases w.l with q|⟨raw,q⟩
  ·rw[e] at q;cases q;exact h1 w.d
  ·rw[e] at q;cases q;exact h2 raw u w.d rfl
theorem Sw.rd(w:Sw F F' a u){b:Addr}{o:HO}(h:Rd F b o)(ho:jX o):Rd F' b o:=by
 by_cases hb:b=a
 ·subst hb;have:o=u:=by
   rcases h with h|⟨r,h⟩<;>rcases w.l with q|⟨r',q⟩<;>rw[h] at q<;>cases q
   ·rfl
   ·exact ho.elim
   ·exact w.d.elim
   ·rfl
  rw[this];exact w.r
 ·rcases h with h|⟨r,h⟩
  ·exact .inl (by rw[w.ne b hb];exact h)
  ·exact .inr ⟨r,by rw[w.ne b hb];exact h⟩
theorem Sw.sq(w:Sw F F' a u){b:Addr}{xs:List V}(h:SqL K F b xs):SqL K F' b xs:=by
 rcases h with(h|⟨o,h⟩)|h
 ·exact .inl (.inl (w.other h (λz=>z) λ_ _ _ z=>by cases z))
 ·exact .inl (.inr ⟨o,w.other h (λz=>z) λ_ x hx z=>by cases z;exact hx⟩)
 ·exact .inr h
theorem Rep.sw(w:Sw F F' a u)(h:Rep K F v p):Rep K F' v p:=by
 induction h with
 |non=>exact .non
 |bl=>exact .bl
 |int=>exact .int
 |str=>exact .str
 |ty=>exact .ty
 |tup h hl _ ih=>exact .tup (w.other h (λz=>z) λ_ _ _ z=>by cases z) hl ih
 |lst h hl _ ih=>exact .lst (w.sq h) hl ih
 |dk h hl _ ih=>exact .dk (w.rd h trivial) hl ih
 |dt h hl _ ih=>exact .dt (w.rd h trivial) hl ih
 |exc nm h hd hl _ ih=>exact .exc nm (w.other h (λz=>z) λ_ _ _ z=>by cases z) (w.other hd (λz=>z) λ_ _ _ z=>by cases z) hl ih
 |exc0 nm h=>exact .exc0 nm (w.other h (λz=>z) λ_ _ _ z=>by cases z)
theorem bQ.sw{xs:List V}{l:List PV}(w:Sw F F' a u)(h:bQ K F xs l):bQ K F' xs l:=⟨h.1,λj x p a b=>(h.2 j x p a b).sw w⟩
theorem Own.sw{b:Addr}(w:Sw F F' a u)(e:H' b=H b)(h:Own K F H b p):Own K F' H' b p:=by
 cases p with
 |lst l=>obtain⟨xs,q,r⟩:=h;exact⟨xs,by rw[e];exact q,r.sw w⟩
 |dk l=>obtain⟨xs,q,r,s⟩:=h;exact⟨xs,by rw[e];exact q,r,λj x p a b=>(s j x p a b).sw w⟩
 |dt l=>obtain⟨xs,q,r,s⟩:=h;exact⟨xs,by rw[e];exact q,r,λj x p a b=>(s j x p a b).sw w⟩
 |_=>exact h.elim
theorem Dp.sw{P:Addr->Prop}(w:Sw F F' a u)(wH:Sw H H' a u)(h:Dp K F H P v p):(∀ b,P b->b≠a)->Dp K F' H' P v p:=by
 induction h with
 |fr h st=>exact λ_=>.fr (h.sw w) st
 |lst h hp hs dj hl _ ih=>exact λn=>.lst (by rw[wH.ne _ (n _ hp)];exact h) hp hs dj hl λj x p e1 e2=>ih j x p e1 e2 λb q=>n b (hs j b q).1
 |tup h hs dj hl _ ih=>exact λn=>.tup (wH.other h (λz=>z) λ_ _ _ z=>by cases z) hs dj hl λj x p e1 e2=>ih j x p e1 e2 λb q=>n b (hs j b q)
 |dk h hp hs dj hl _ ih=>exact λn=>.dk (by rw[wH.ne _ (n _ hp)];exact h) hp hs dj hl λj x p e1 e2=>ih j x p e1 e2 λb q=>n b (hs j b q).1
 |dt h hp hs dj hl _ ih=>exact λn=>.dt (by rw[wH.ne _ (n _ hp)];exact h) hp hs dj hl λj x p e1 e2=>ih j x p e1 e2 λb q=>n b (hs j b q).1
theorem RE.sw{C C':Cf}{σ:St}{ρ:Rho}(w:Sw F F' a u)(wH:Sw H H' a u)(fa:F a≠none)(hio:C'.io=C.io)(hnw:C'.nw=C.nw)(h0:∀ b,b≠a->C'.H0 b=C.H0 b)(rb:RB C' F' H')(R:RE K C F H σ ρ):RE K C' F' H' σ ρ where
 rb:=rb
 len:=R.len
 sh:=λi p e=>let⟨v,e1,r⟩:=R.sh i p e;⟨v,e1,r.sw w⟩
 ow:=λi p e=>by
  obtain⟨b,e1,e2,e3,e4⟩:=R.ow i p e;have nb:b≠a:=λz=>by subst z;exact fa e3
  exact⟨b,e1,e2.sw w (wH.ne b nb),by rw[w.ne b nb];exact e3,by rw[hio,hnw,h0 b nb];exact e4⟩
 dis:=R.dis
 dd:=by
  obtain⟨P,d⟩:=R.dd;have nb:∀ i b,P i b->b≠a:=λi b q z=>by subst z;exact fa (d.own i b q).1
  refine⟨P,λi b q=>?_,d.dis,d.ow,λi p e=>?_⟩
  ·obtain⟨c1,⟨o,c2,c3⟩,c4,c5⟩:=d.own i b q;exact⟨by rw[w.ne b (nb i b q)];exact c1,⟨o,by rw[wH.ne b (nb i b q)];exact c2,c3⟩,by rw[hnw];exact c4,by rw[h0 b (nb i b q)];exact c5⟩
  ·obtain⟨v,e1,e2⟩:=d.dp i p e;exact⟨v,e1,e2.sw w wH (nb i)⟩
end
def dh(G:Hp)(a:Addr)(raw:Obj)(u:HO):Hp:=λb=>@ite _ (b=a/\G a=some u) (Classical.propDecidable _) (some (.frz raw u)) (G b)
theorem dY{G:Hp}{a b:Addr}{raw:Obj}{u:HO}(h:b≠a):dh G a raw u b=G b:=@if_neg _ (Classical.propDecidable _) (λz=>h z.1) _ _ _
theorem rF{G:Hp}{a:Addr}{raw:Obj}{u:HO}(h:G a=some u):dh G a raw u a=some (.frz raw u):=@if_pos _ (Classical.propDecidable _) ⟨rfl,h⟩ _ _ _
theorem pg{G:Hp}{a:Addr}{raw:Obj}{u:HO}(h:G a≠some u):dh G a raw u a=G a:=@if_neg _ (Classical.propDecidable _) (λz=>h z.2) _ _ _
def Sh(F:Hp)(σ:St)(i:Nat):Prop:=∃ a raw u,σ[i]?=some (some (.ref a))/\F a=some (.frz raw u)/\jX u
def MSh(K:Frag)(C:Cg)(i:Nat)(t:TS)(f:Sn):Prop:=∀ F H σ ρ D o,RE K C.toCf F H σ ρ->Sh F σ i->f ρ=some o->PO' K C F D o->t D σ H
def uF(i:Nat)(f:Sn):Sn:=λρ=>match ρ[i]? with
 |some (some (.sh p))=>if p.isD=true then(match f ρ with
  |some (.rd _)=>none
  |x=>x) else none
 |_=>none
section
variable{K:Frag}{t:TS}{f:Sn}
theorem Mu{io:Addr->Prop}{H0 F0 F H:Hp}{σ:St}{ρ:Rho}{a:Addr}{u:HO}{raw:Obj}(R:RE K (C0 io H0 F0).toCf F H σ ρ)(fa:F a=some u)(hu:jX u) :
  RE K (C0 io (dh H0 a raw u) (dh F0 a raw u)).toCf (upd F a (.frz raw u)) (upd H a (.frz raw u)) σ ρ/\H a=some u:=by
 have ha:=R.rb.sub _ _ fa;have w:Sw F (upd F a (.frz raw u)) a u:=⟨λb hb=>aq hb,.inl fa,.inr ⟨raw,aK⟩,hu⟩;have wH:Sw H (upd H a (.frz raw u)) a u:=⟨λb hb=>aq hb,.inl ha,.inr ⟨raw,aK⟩,hu⟩;have nt:∀ ys,u≠.tup ys:=λys z=>by subst z;exact hu
 have rb2:RB (C0 io (dh H0 a raw u) (dh F0 a raw u)).toCf (upd F a (.frz raw u)) (upd H a (.frz raw u)):=by
  refine⟨λb o q=>?_,λb o q n=>?_,λb o q=>?_,λb q=>?_⟩
  ·by_cases hb:b=a
   ·subst hb;rw[aK] at q ⊢;exact q
   ·rw[aq hb] at q ⊢;exact R.rb.sub b o q
  ·by_cases hb:b=a
   ·subst hb;rw[aK];by_cases hh:H0 b=some u
    ·have q:dh H0 b raw u b=some o:=q;rw[rF hh] at q;exact q
    ·have q:dh H0 b raw u b=some o:=q;rw[pg hh] at q;have:=R.rb.keep b o q n;rw[ha] at this;exact absurd (q.trans this.symm) hh
   ·have q:dh H0 a raw u b=some o:=q;rw[dY hb] at q;rw[aq hb];exact R.rb.keep b o q n
  ·by_cases hb:b=a
   ·subst hb;rw[aK] at q;cases q;rcases R.rb.new b u fa with z|z|⟨ys,z⟩
    ·exact .inl (rF z)
    ·refine .inr (.inl ?_);show dh H0 b raw u b=none
     rw[pg (by rw[show H0 b=none from z];intro y;cases y)];exact z
    ·exact absurd z (nt ys)
   ·rw[aq hb] at q;rcases R.rb.new b o q with z|z|z
    ·exact .inl ((dY hb).trans z)
    ·exact .inr (.inl ((dY hb).trans z))
    ·exact .inr (.inr z)
  ·obtain⟨q1,q2⟩:=R.rb.ios b q;refine⟨?_,?_⟩
   ·by_cases hb:b=a
    ·subst hb;rw[aK];intro z;cases z
    ·rw[aq hb];exact q1
   ·show dh H0 a raw u b≠none
    by_cases hb:b=a
    ·subst hb;by_cases hh:H0 b=some u
     ·rw[rF hh];intro z;cases z
     ·rw[pg hh];exact q2
    ·rw[dY hb];exact q2
 have R2:RE K (C0 io (dh H0 a raw u) (dh F0 a raw u)).toCf (upd F a (.frz raw u)) (upd H a (.frz raw u)) σ ρ:=RE.sw (C:=(C0 io H0 F0).toCf) w wH (by rw[fa];intro z;cases z) rfl rfl (λb hb=>dY hb) rb2 R
 exact⟨R2,ha⟩
theorem Fj{io:Addr->Prop}{H0 F0:Hp}(i:Nat)(h:∀ H0 F0,MSh K (C0 io H0 F0) i t f):MS K (C0 io H0 F0) (O3 i t) (uF i f):=by
 intro F H σ ρ D o R e P;unfold uF at e;split at e
 case h_2=>cases e
 rename_i p hp;split at e
 case isFalse=>cases e
 rename_i hd;obtain⟨e',nrd⟩:f ρ=some o/\∀ q,o≠.rd q:=by
  split at e
  ·cases e
  ·rename_i x hx;exact⟨e,λq z=>by subst z;exact hx q e⟩
 obtain⟨v,ev,rv⟩:=R.sh i p hp;obtain⟨a,u,rfl,rd,hu⟩:∃ a u,v=.ref a/\Rd F a u/\jX u:=by
  cases rv with
  |dk h=>exact⟨_,_,rfl,h,trivial⟩
  |dt h=>exact⟨_,_,rfl,h,trivial⟩
  |_=>cases hd
 refine⟨a,u,ev,hu,?_⟩;rcases rd with fa|⟨raw,fa⟩
 case inr=>exact .inl ⟨⟨raw,R.rb.sub _ _ fa⟩,h H0 F0 F H σ ρ D o R ⟨a,raw,u,ev,fa,hu⟩ e' P⟩
 refine .inr ⟨R.rb.sub _ _ fa,λraw=>?_⟩;have ha:=R.rb.sub _ _ fa;have w:Sw F (upd F a (.frz raw u)) a u:=⟨λb hb=>aq hb,.inl fa,.inr ⟨raw,aK⟩,hu⟩;have wH:Sw H (upd H a (.frz raw u)) a u:=⟨λb hb=>aq hb,.inl ha,.inr ⟨raw,aK⟩,hu⟩;have nt:∀ ys,u≠.tup ys:=λys z=>by subst z;exact hu
 obtain⟨R2,_⟩:=Mu (raw:=raw) R fa hu;have back:∀ {F3 H3:Hp},aR (upd F a (.frz raw u)) F3->RB (C0 io (dh H0 a raw u) (dh F0 a raw u)).toCf F3 H3->H3 a=some (.frz raw u)/\Sw F3 (upd F3 a u) a u/\Sw H3 (upd H3 a u) a u/\aR F (upd F3 a u)/\RB (C0 io H0 F0).toCf (upd F3 a u) (upd H3 a u):=by
  intro F3 H3 s3 rb3;have f3:F3 a=some (.frz raw u):=s3 _ _ aK;have h3:=rb3.sub _ _ f3;refine⟨h3,⟨λb hb=>aq hb,.inr ⟨raw,f3⟩,.inl aK,hu⟩,⟨λb hb=>aq hb,.inr ⟨raw,h3⟩,.inl aK,hu⟩,λb o q=>?_,λb o q=>?_,λb o q n=>?_,λb o q=>?_,λb q=>?_⟩
  ·by_cases hb:b=a
   ·subst hb;rw[aK,<-q,fa]
   ·rw[aq hb];exact s3 b o (by rw[aq hb];exact q)
  ·by_cases hb:b=a
   ·subst hb;rw[aK] at q ⊢;exact q
   ·rw[aq hb] at q ⊢;exact rb3.sub b o q
  ·by_cases hb:b=a
   ·subst hb;have:=R.rb.keep b o q n;rw[ha] at this;rw[aK];exact this
   ·rw[aq hb];exact rb3.keep b o ((dY hb).trans q) n
  ·by_cases hb:b=a
   ·subst hb;rw[aK] at q;cases q;exact R.rb.new b u fa
   ·rw[aq hb] at q;rcases rb3.new b o q with z|z|z
    ·exact .inl ((dY hb).symm.trans z)
    ·exact .inr (.inl ((dY hb).symm.trans z))
    ·exact .inr (.inr z)
  ·refine⟨?_,(R.rb.ios b q).2⟩;by_cases hb:b=a
   ·subst hb;rw[aK];intro z;cases z
   ·rw[aq hb];exact(rb3.ios b q).1
 have backR:∀ {F3 H3:Hp}{σ3:St}{ρ3:Rho},aR (upd F a (.frz raw u)) F3->RE K (C0 io (dh H0 a raw u) (dh F0 a raw u)).toCf F3 H3 σ3 ρ3->H3 a=some (.frz raw u)/\aR F (upd F3 a u)/\RE K (C0 io H0 F0).toCf (upd F3 a u) (upd H3 a u) σ3 ρ3:=by
  intro F3 H3 σ3 ρ3 s3 R3;obtain⟨b1,b2,b3,b4,b5⟩:=back s3 R3.rb;have f3:F3 a=some (.frz raw u):=s3 _ _ aK;exact⟨b1,b4,RE.sw (C:=(C0 io (dh H0 a raw u) (dh F0 a raw u)).toCf) b2 b3 (by rw[f3];intro z;cases z) rfl rfl (λb hb=>(dY hb).symm) b5 R3⟩
 refine h (dh H0 a raw u) (dh F0 a raw u) _ _ σ ρ _ o R2 ⟨a,raw,u,ev,aK,hu⟩ e' ?_;cases o with
 |nx ρ3=>exact λF3 H3 σ3 s3 R3=>let⟨b1,b2,b3⟩:=backR s3 R3;⟨b1,P _ _ _ b2 b3⟩
 |bk ρ3=>exact λF3 H3 σ3 s3 R3=>let⟨b1,b2,b3⟩:=backR s3 R3;⟨b1,P _ _ _ b2 b3⟩
 |ct ρ3=>exact λF3 H3 σ3 s3 R3=>let⟨b1,b2,b3⟩:=backR s3 R3;⟨b1,P _ _ _ b2 b3⟩
 |rt q=>exact λv F3 H3 s3 rb3 r=>let⟨b1,b2,b3,b4,b5⟩:=back s3 rb3;⟨b1,P v _ _ b4 b5 (r.sw b2)⟩
 |ro q=>
  intro b F3 H3 s3 rb3 ow nb n0;obtain⟨b1,b2,b3,b4,b5⟩:=back s3 rb3;have f3:F3 a=some (.frz raw u):=s3 _ _ aK;have hb:b≠a:=λz=>by subst z;rw[f3] at nb;cases nb
  exact⟨b1,P b _ _ b4 b5 (ow.sw b2 (b3.ne b hb)) (by rw[aq hb];exact nb) ((dY hb).symm.trans n0)⟩
 |rd q=>exact absurd rfl (nrd q)
 |ex z=>exact λ_ _ _ _ _ _ x=>x.elim
end
def uG(l:List (Key×PV)):List PV:=l.map λkv=>CP kv.1
def tD:PV->Option (Res (List PV))
 |.dk l=>some (.ok (uG l))
 |_=>none
def Sq(K:Frag)(C:Cg)(i:Nat)(wi:TI)(f:Fn (List PV)):Prop:=
 ∀ F H σ ρ R' r,RE K C.toCf F H σ ρ->Sh F σ i->f ρ=some r->Pr C F (λl=>∀ J F' H',Up F H F' H'->ItR K J F' l->R' J H') r->wi σ H R'
section
variable{K:Frag}{C:Cg}{t:TS}{f:Sn}{F H:Hp}{σ:St}{ρ:Rho}{D:Ends}{o:Out}
theorem Fl{k:Key}:Rep K F (kV k) (CP k):=by
 cases k with
 |inl i=>exact .int
 |inr z=>exact .str
theorem zK(i:Nat):Sq K C i (O4 (qT i)) (m1 tD (mV i)):=by
 intro F H σ ρ R' r R hh e P;rcases b8 e with⟨z,e1,rfl⟩|⟨p,e1,hk⟩
 ·unfold mV at e1;split at e1
  ·cases e1
  ·cases e1
 obtain⟨a,raw,u,ev,fa,hu⟩:=hh;have hp:ρ[i]?=some (some (.sh p)):=by
  unfold mV at e1;split at e1
  ·rename_i q hq;cases e1;exact hq
  ·cases e1
 match p,hk with
 |.dk l,hk=>
  cases hk;obtain⟨v,ev',rv⟩:=R.sh i _ hp;rw[ev] at ev';cases ev';cases rv with
  |@dk _ xs _ h hl hr=>
   have hx:u=.dK xs:=by
    rcases h with h|⟨o,h⟩
    ·rw[fa] at h;cases h
    ·rw[fa] at h;cases h;rfl
   subst hx;have len:xs.length=l.length:=by have:=ZbJ List.length hl;simpa using this
   refine⟨_,ev,a,raw,xs,rfl,R.rb.sub _ _ fa,P _ F H (Up.refl R.rb.sub) ⟨λF' H' s s'=>?_,λj F' H' hj s s'=>?_,λj F' H' x H'' hj s s' y=>?_⟩⟩
   ·exact⟨s' _ _ (s _ _ fa),by unfold uG;rw[List.length_map];exact len.symm⟩
   ·refine⟨s' _ _ (s _ _ fa),?_⟩;unfold uG at hj;rw[List.length_map] at hj;omega
   ·obtain⟨rfl,kv,hkv,rfl⟩:=y;have hl2:(l.map (·.1))[j]?=some kv.1:=by rw[<-hl,Zac,hkv];rfl
    refine⟨F',CP kv.1,Up.refl s',?_,Fl⟩;unfold uG;rw[Zac] at hl2 ⊢;cases q:l[j]? with
    |none=>rw[q] at hl2;cases hl2
    |some w=>
     rw[q] at hl2;show some (CP w.1)=some (CP kv.1)
     rw[show w.1=kv.1 from Zad hl2]
theorem Fo{i:Nat}{wi:TI}{it:Fn (List PV)}{gt:TG}{tg:PV->Rho->Option Rho}(hi:Sq K C i wi it)(hg:MG K C gt tg)(hb:MS K C t f):MSh K C i (PJ wi gt t) (lR it tg f):=by
 intro F H σ ρ D o R hh e P;rcases dR e with⟨z,e1,rfl⟩|⟨l,e1,hk⟩
 ·exact hi F H σ ρ _ _ R hh e1 P
 ·exact hi F H σ ρ _ _ R hh e1 λJ F' H' u hJ=>wu hg hb hJ (R.up u) hk (P.up u.ff)
end
end L2.MP
namespace L2
open PySem PySem.Spec PyProof PyProof.Rows
def srt(ns:List Int):List Int:=ns.mergeSort λa b=>decide (a<=b)
theorem mD(ns:List Int):(srt ns).Perm ns:=List.mergeSort_perm ns _
namespace MP
end MP
def Itp(a:Addr)(raw:Obj)(kvs:List (Key×V)):It:=
 ⟨λi H=>H a=some (.frz raw (.dK kvs))/\i<kvs.length,λi H x H'=>∃ p kv,H p=none/\kvs[i]?=some kv/\x=.ref p/\H'=upd H p (.tup [kV kv.1,kv.2]),λi H=>H a=some (.frz raw (.dK kvs))/\i=kvs.length⟩
theorem Qy{P:Program}{w:World}{kvs:List (Key×V)}{vs:List (Key×Value)}(r:KV kvs vs){i:Nat}{p:Key×V}(e:kvs[i]?=some p):∃ u,vs[i]?=some (p.1,u)/\RelV p.2 u:=by
 induction r generalizing i with
 |nil=>cases i<;>cases e
 |@cons a b as bs h t ih=>
  cases i with
  |zero=>
   cases e;obtain⟨b1,b2⟩:=b;obtain⟨h1,h2⟩:=h;exact⟨b2,by rw[List.getElem?_cons_zero,h1],h2⟩
  |succ i=>rw[List.getElem?_cons_succ] at e;obtain⟨u,q1,q2⟩:=ih e;exact⟨u,by rw[List.getElem?_cons_succ];exact q1,q2⟩
theorem CT{P:Program}{w:World}{K:Frag}{elts:List Expr}{x1:Nat}{pos:Pos}(a it:Addr)(raw:Obj)(kvs:List (Key×V)){es:Array DictEntry}{ep:Nat}(hd:raw.data=.dict es ep) :
  Turn P w K (.Tuple elts x1 pos) (Itp a raw kvs) [it] it (λi h=>∃ ok ov,IsItemIter h it a i kvs.length ep ok ov) where
 mem:=by simp
 obj:=λi h st b hb=>by
  have e:b=it:=by simpa using hb
  subst e;obtain⟨ok,ov,e⟩:=st;exact⟨_,e,λv z=>by cases z⟩
 keep:=λi h h' st k=>by
  obtain⟨ok,ov,e⟩:=st;exact⟨ok,ov,k it (by simp) _ e⟩
 item:=by
  intro X hP hw hK hc i pins s σ H E I hf st hg;subst hP hw hK;obtain⟨e,hi⟩:=hg;obtain⟨ok,ov,ei⟩:=st;obtain⟨f0,f1,f2,f3,f4,f5⟩:=hf it (by simp)
  obtain⟨_,vs,kv,dd⟩:=nO I.hok e hd;have hl:=kv.length;obtain⟨p,hp⟩:∃ p,kvs[i]?=some p:=⟨_,Zaa hi⟩;obtain⟨u,hu,ru⟩:=Qy (P:=X.prog) (w:=X.w) kv hp;refine wpAny_pyNext_items_item (knd:=bR X.prog X.w) (by rw[<-hl];exact ei) dd hu λkey h3 hk e3 n3 sz3 k3=>?_
  refine⟨_,rfl,wpAny_letOwnedTupleGo_items e3 λh4 e4 s4=>?_⟩;have ilt:it<s.heap.objs.size:=Zau ei;have hT2:IsPair h4 s.heap.objs.size key u:=(s4.2 _ (Nat.ne_of_gt ilt)).trans n3;refine⟨.ref s.heap.objs.size,upd H s.heap.objs.size (.tup [kV p.1,p.2]),I.vZ (ch:=[it]) (λb' o hb q=>?_) hf (Zag _) ⟨by show 2<=sizeLine;decide,[key,u],.cons (xQ hk) (.cons ru .nil),fP.mk hT2⟩,rfl,⟨_,p,I.hok.fresh (Zag _),hp,rfl,rfl⟩,⟨key,u,by rw[hl];exact e4⟩,λb' hb=>?_⟩
  ·have q1:b'≠it:=λe=>hb (by simp[e])
   exact(s4.2 b' q1).trans (k3 b' o q1 q)
  ·have e:b'=it:=by simpa using hb
   subst e;rw[aq (ZaG ilt)];exact f0
 done:=by
  intro X hP hw hK hc i pins s σ H E I hf st hg;subst hP hw hK;obtain⟨e,hi⟩:=hg;obtain⟨ok,ov,ei⟩:=st;obtain⟨_,vs,kv,dd⟩:=nO I.hok e hd;have hl:=kv.length;refine wpAny_pyNext_items_end (knd:=bR X.prog X.w) (I.ok.hd hc) (by rw[<-hl];exact ei) dd (by rw[List.getElem?_eq_none_iff];omega) λh' k=>⟨rfl,?_⟩
  exact I.nH (t':=s.toks) (ch:=[it]) (λb' o hb q=>k b' o (λe=>hb (by simp[e])) q) hf
 self:=λA i s Q E st h=>by
  obtain⟨ok,ov,e⟩:=st;exact PySem.W.kcp_self e h
def CV(tl:TE):TI:=λσ H R=>tl σ H λx H1=>∃ a raw kvs,x=.ref a/\H1 a=some (.frz raw (.dK kvs))/\R (Itp a raw kvs) H1
theorem zL{X:Cx}{o:Expr}{apos cpos tpos:Pos}{elts:List Expr}{x1:Nat}{tl:TE}(hl:PE X o tl)(hbase:attributeBase o "items" X.env (eval o X.env)=eval o X.env:=by rfl)(hline:(apos.endLine==cpos.line)=true:=by rfl) :
  PI X (.Tuple elts x1 tpos) (.Call (.Attribute o "items" apos) [] [] cpos) (CV tl):=by
 intro pins s σ H R I h;refine wpAny_Call_method (T:="dict") (id:="dict.items") hbase rfl hline PySem.F.plainAttrs_dict PySem.F.slot_dict_items PySem.F.type_dict_items (thn (hl pins s σ H _ I h) ?_);rintro u s1 ⟨x,H1,I1,rx,q1⟩;obtain⟨a,raw,kvs,e,ha,q⟩:=q1;subst e;obtain rfl:u=Value.ref a:=rx;obtain⟨t1,t2,_⟩:=Jo I1 (.inl ⟨kvs,.inr ⟨raw,ha⟩⟩);refine⟨t1,t2,?_⟩;obtain⟨es,ep,hd⟩:∃ es ep,raw.data=.dict es ep:=by
  obtain⟨hr,_,hs,vs,kv,o,es',ep',h1,h2,h3,h4⟩:=(show dg X.prog X.w H1 s1.heap a (.frz raw (.dK kvs)) from I1.hok a _ ha);rw[hr] at h1;cases h1;exact⟨_,_,h3⟩
 obtain⟨hs,vs,kv,dd⟩:=nO I1.hok ha hd;show wpAny _ _ (callWith cpos (.builtin "dict.items") [.ref a] [] []) _ _ s1
 refine method_meetsIn PySem.F.slot_dict_items PySem.F.entry_dict_items rfl (PySem.evalArgs_none ⟨rfl,t1,PySem.F.args_dict_items_1 _,_,meets_dict_items (bR X.prog X.w) a hs,⟨vs,Heap.DictAt.dictOf dd⟩,?_⟩);have hsz:(s1.heap.push { cls:=.type "dict_items",data:=.fields #[.ref a] }).objs.size=s1.heap.objs.size+1:=Heap.size_push ..;refine wpAny_pyIter_items (knd:=bR X.prog X.w) (d:=a) (kvs:=vs) (ep:=ep) ⟨_,Zax _ rfl,rfl,rfl⟩ (dd.push _) ?_;refine⟨(s1.heap.push { cls:=.type "dict_items",data:=.fields #[.ref a] }).objs.size,[(s1.heap.push { cls:=.type "dict_items",data:=.fields #[.ref a] }).objs.size],_,_,H1,rfl,I1.kept (t':=s1.toks) λb o e=>Zaf _ (Zaf _ e),CT a _ raw kvs hd,⟨.none,.none,?_⟩,λb hb=>?_,q⟩
 ·rw[kv.length];exact Zax _ rfl
 ·have e:b=s1.heap.objs.size+1:=by simpa[hsz] using hb
  subst e;exact I1.t8 (Nat.le_succ _) (I1.hok.fresh (Nat.le_succ _))
namespace MP
def mF(l:List (Key×PV)):List PV:=l.map λkv=>.tup [CP kv.1,kv.2]
def mG:PV->Option (Res (List PV))
 |.dk l=>some (.ok (mF l))
 |_=>none
end MP
theorem xR{h:Heap}{vs:List Value}{out:Array Value}{b:Addr}{o:Obj}(hb:h.get? b=some o):(sortedHeap (h.push (seqObj "list" vs.toArray 0)) h.objs.size vs out).get? b=some o:=by
 have hlt:b<h.objs.size:=Zau hb;rw[sortedHeap_old (ZaG hlt) (by rw[size_push'];exact Nat.lt_succ_of_lt hlt)]
 exact Zaf _ hb
namespace MP
end MP
end L2
namespace L2.MP
open PySem PySem.Spec PyProof.Rows
section
variable{K:Frag}{F H:Hp}{S:Addr->Prop}{p:PV}
def PV.xT:PV->Bool
 |.lst l=>l.all PV.still
 |.dk l=>l.all λkv=>kv.2.still
 |.dt l=>l.all λkv=>kv.2.still
 |_=>false
theorem Own.dp{a:Addr}(w:Own K F H a p)(h:p.xT=true):Dp K F H (λb=>b=a) (.ref a) p:=by
 cases p with
 |lst l=>
  obtain⟨xs,e2,e3⟩:=w;exact .lst (S:=λ_ _=>False) e2 rfl (λj b q=>q.elim) (λi j b q=>q.elim) e3.1 λj x p e4 e5=>.fr (e3.2 j x p e4 e5) (Zbd.mp h p (ZaC e5))
 |dk l=>
  obtain⟨xs,e2,e3,e4⟩:=w;exact .dk (S:=λ_ _=>False) e2 rfl (λj b q=>q.elim) (λi j b q=>q.elim) e3 λj x p e5 e6=>.fr (e4 j x p e5 e6) (Zbd.mp h p (ZaC e6))
 |dt l=>
  obtain⟨xs,e2,e3,e4⟩:=w;exact .dt (S:=λ_ _=>False) e2 rfl (λj b q=>q.elim) (λi j b q=>q.elim) e3 λj x p e5 e6=>.fr (e4 j x p e5 e6) (Zbd.mp h p (ZaC e6))
 |_=>cases h
end
open PySem PySem.Spec PyProof PyProof.Rows
def O5(i j:Int):Prop:=i.natAbs<2^9000/\j.natAbs<2^9000
def O6(i j:Int):Bool:=decide (i.natAbs<2^9000/\j.natAbs<2^9000)
section
variable{K:Frag}{C:Cg}
theorem qg{X:Cx}:OpR X (binaryOp .Mult) (rI O5 λi j=>.int (i*j)):=_root_.L2.opI λ_ _ _ _ _ _ _ hc q=>mul_int q (PySem.IntMulOk.of_le (PyProof.Rows.intBits_le hc.1) (PyProof.Rows.intBits_le hc.2) (by decide))
def mH:=MP.opI O6 λi j=>.int (i*j)
theorem uH:R2M C (aF K) (aF K) (aF K) (rI O5 λi j=>.int (i*j)) mH:=ww (λ_ _ h=>ZaT (p:=_/\_) h) λ_ _ _=>.int
end
end L2.MP
namespace L2
open PySem PySem.Spec PyProof PyProof.Rows
open PySem PySem.W PyProof.Rows
def kIn{α:Type}(n:Nat)(P:α->Prop):KasT α->Prop
 |.ret a=>P a
 |.ask i j k=>i<n/\j<n/\∀ b,kIn n P (k b)
open PySem PySem.Spec PySem.W PyProof PyProof.Rows
open PySem PySem.Spec PySem.W PyProof PyProof.Rows
theorem zM{α:Type}{f:α->V}{g:α->Value}:∀ {l:List α},(∀ i∈l,RelV (f i) (g i))->Vals (l.map f) (l.map g)
 |[],_=>.nil
 |i::l,h=>.cons (h i List.mem_cons_self) (zM λj hj=>h j (List.mem_cons_of_mem _ hj))
namespace MP
end MP
end L2
namespace L2.MP
open PySem PySem.Spec PyProof.Rows
section
theorem zN{α:Type}{l:List α}{i:Nat}{x:α}(h:l[i]?=some x):l.set i x=l:=by
 apply Zbs
 intro j;rw[List.getElem?_set];split
 ·rename_i e;subst e;rw[Zah (cH h),h]
 ·rfl
theorem JW{α:Type}(l:List α)(i:Nat)(x y:α):(l.set i x).set i y=l.set i y:=by simp
end
end L2.MP
namespace L2
open PySem PySem.F PySem.Spec PyProof PyProof.Rows
namespace MP
end MP
open PySem PySem.Spec PyProof PyProof.Rows
namespace MP
end MP
open PySem PySem.Spec PySem.W PyProof PyProof.Rows
section
variable{X:Cx}
theorem wz(hc:X.calm=true):oE X (.builtin "sum") (MP.Sd List.sum X.K):=by
 intro pins s σ H xs us Q I rv h;obtain⟨p,ns,rfl,hq,hne,q⟩:=h;obtain⟨u,rfl,ru⟩:=rv.one;cases ru;obtain⟨its,r,pl,hz⟩:=I.list hq;have hi:=MP.uy r;obtain⟨ys,e⟩:=hi.allInts.items;have hns:ns=ys.toList.map (·.1):=by rw[<-hi.numsOf,<-nums_intItems,<-e]
 have pl':=pl.isList;rw[e] at pl';refine sum_intListG (I.ok.hd hc) pl' λh' tk t' hk=>?_;rw[preSum_eq,ZaX (by simp),<-hns]
 exact⟨.int _,H,I.kept hk,⟨t',rfl⟩,q⟩
end
namespace MP
end MP
end L2
namespace L2.MP
open PySem PySem.Spec PyProof.Rows
end L2.MP
namespace L2
open PySem PySem.Spec PyProof PyProof.Rows
section
variable{X:Cx}{pins:List (Addr×Obj)}{σ:St}{H:Hp}{s:Shared}{a:Addr}{kvs:List (Key×V)}{k:Key}{z:V}{u r:Value}{A:Around}{E:Value->Shared->Prop}
theorem Hr{Q:Value->Shared->Prop}(I:Inv X pins σ H s)(e:H a=some (.dK kvs))(hl:kvs.length<sizeLine)(ry:RelV (kV k) u)(rz:RelV z r)
  (h1:∀ v,iC kvs k=some v->∀ w' s',Inv X pins σ H s'->RelV v w'->Q w' s')
  (h2:iC kvs k=none->∀ s',Inv X pins σ (upd H a (.dK (putK kvs k z))) s'->Q r s'):wpAny (model X.prog X.w) A (call (.builtin "dict.setdefault") [.ref a,u,r]) Q E s:=by
 obtain⟨zz,hd,vs,rel,dd⟩:=Ov I.hok e;have hz:vs.length<=sizeLine:=by rw[<-rel.length];exact zz
 have hl2:(putK kvs k z).length<=sizeLine:=by have:=lX kvs k z;omega
 have rv:=rel.val k;refine call_meetsIn PySem.F.slot_dict_setdefault dd.typeIs PySem.F.entry_dict_setdefault (PySem.F.args_dict_setdefault_3 _ _ _) (kt_meets_setdefault (bR X.prog X.w) a (za ry) hd r)
  ⟨vs,dd,hz,λv hv=>?_,λhn h' dd' hs=>?_⟩
 ·rw[hv] at rv;cases e2:iC kvs k with
  |none=>rw[e2] at rv;exact rv.elim
  |some v'=>rw[e2] at rv;exact h1 v' e2 v _ (I.tok _) rv
 ·rw[hn] at rv;have hn':iC kvs k=none:=by
   cases e2:iC kvs k with
   |none=>rfl
   |some v'=>rw[e2] at rv;exact rv.elim
  have he:∃ q,h'.get? a=some q:=let⟨q,_,_,hq,_⟩:=dd';⟨q,hq⟩;exact h2 hn' _ (xf I (by rw[e];exact True.intro) hs he (Jj hl2 hd (rel.put k rz) dd'))
end
def zO(td ty tz:TE):TE:=λσ H Q=>td σ H λx H1=>∃ a,x=.ref a/\IsD H1 a/\ty σ H1 λy H2=>tz σ H2 λz H3=>∃ kvs k,H3 a=some (.dK kvs)/\y=kV k/\kvs.length<sizeLine /\
 (∀ v,iC kvs k=some v->Q v H3)/\(iC kvs k=none->Q z (upd H3 a (.dK (putK kvs k z))))
section
variable{X:Cx}{o e f:Expr}{apos cpos:Pos}{td ty tz:TE}
theorem uI(ho:PE X o td)(he:PE X e ty)(hf:PE X f tz)(m:M2 X o "setdefault" apos e f cpos):PE X (.Call (.Attribute o "setdefault" apos) [e,f] [] cpos) (zO td ty tz):=by
 intro pins s σ H Q I h;refine wpAny_Call_method m.base m.few m.line PySem.F.plainAttrs_dict PySem.F.slot_dict_setdefault PySem.F.type_dict_setdefault (thn (ho pins s σ H _ I h) ?_);rintro u s1 ⟨x,H1,I1,rx,a,ex,d,q1⟩;subst ex;obtain rfl:u=Value.ref a:=rx;obtain⟨t1,t2,_⟩:=Jo I1 d;refine⟨t1,t2,?_⟩;rw[m.trees];refine Calls.callWith_builtin rfl (Calls.evalArgs_plain (Calls.spliced_cons (thn (he pins s1 σ H1 _ I1 q1) λiv s2 ⟨y,H2,I2,ry,q2⟩=>
  Calls.spliced_cons (thn (hf pins s2 σ H2 _ I2 q2) λfv s3 ⟨z,H3,I3,rz,kvs,k,ea,ey,hl,c1,c2⟩=>Calls.spliced_nil ?_))))
 subst ey;exact Hr I3 ea hl ry rz (λv hv w' s' I' r'=>⟨v,H3,I',r',c1 v hv⟩) λhn s' I'=>⟨z,_,I',rz,c2 hn⟩
end
namespace MP
end MP
end L2
namespace L2.MP
open PySem PySem.Spec PyProof.Rows
section
variable{K:Frag}{F H:Hp}{S:Addr->Prop}{v:V}{p:PV}
theorem Dp.xU{l:List (Key×PV)}(d:Dp K F H S v (.dk l)):∃ (T:Nat->Addr->Prop) (a:Addr) (xs:List (Key×V)),v=.ref a/\H a=some (.dK xs)/\S a/\(∀ j b,T j b->S b/\b≠a)/\(∀ i j b,T i b->T j b->i=j)/\xs.map (·.1)=l.map (·.1)/\∀ (j:Nat) x p,xs[j]?=some x->l[j]?=some p->Dp K F H (T j) x.2 p.2:=by
 cases d with
 |fr r st=>cases st
 |dk h hp hs dj hl hr=>exact⟨_,_,_,rfl,h,hp,hs,dj,hl,hr⟩
end
section
variable{κ:Type}[DecidableEq κ]
def bD:List (κ×PV)->κ->PV->List (κ×PV)
 |[],k,p=>[(k,p)]
 |(a,q)::l,k,p=>if a=k then(a,p)::l else(a,q)::bD l k p
theorem nQ{k:κ}{q:PV}:∀ {xs:List (κ×V)}{l:List (κ×PV)},xs.map (·.1)=l.map (·.1)->cU l k=some q->∃ (j:Nat) (v:V),l[j]?=some (k,q)/\xs[j]?=some (k,v)/\iC xs k=some v/\∀ p,bD l k p=l.set j (k,p)
 |[],[],_,e=>by cases e
 |[],_::_,h,_=>by simp at h
 |_::_,[],h,_=>by simp at h
 |(a,v)::xs,(b,r)::l,h,e=>by
  simp only[Zal,List.cons.injEq] at h;obtain⟨h1,h2⟩:=h;have h1:a=b:=h1;subst h1;by_cases hk:a=k
  ·subst hk;unfold cU at e;rw[Zah rfl] at e;cases e;exact⟨0,v,rfl,rfl,lW rfl,λp=>by unfold bD;rw[Zah rfl];rfl⟩
  ·unfold cU at e;rw[Zai hk] at e;obtain⟨j,w,e1,e2,e3,e4⟩:=nQ h2 e;exact⟨j+1,w,by simpa using e1,by simpa using e2,by rw[jm hk];exact e3,λp=>by rw[bD,Zai hk,e4];rfl⟩
theorem uJ{k:κ}:∀ {xs:List (κ×V)}{l:List (κ×PV)},xs.map (·.1)=l.map (·.1)->cU l k=none->iC xs k=none/\∀ p,bD l k p=l++[(k,p)]
 |[],[],_,_=>⟨rfl,λ_=>rfl⟩
 |[],_::_,h,_=>by simp at h
 |_::_,[],h,_=>by simp at h
 |(a,v)::xs,(b,r)::l,h,e=>by
  simp only[Zal,List.cons.injEq] at h;obtain⟨h1,h2⟩:=h;have h1:a=b:=h1;subst h1;by_cases hk:a=k
  ·unfold cU at e;rw[Zah hk] at e;cases e
  ·unfold cU at e;rw[Zai hk] at e;obtain⟨e1,e2⟩:=uJ h2 e;exact⟨by rw[jm hk];exact e1,λp=>by rw[bD,Zai hk,e2];rfl⟩
end
def zP(fe:Fn PV):Fn PV:=λρ=>bnd (fe ρ) λp=>if p.xT=true then some (.ok p) else none
theorem JX{K:Frag}{C:Cg}{te:TE}{fe:Fn PV}(h:MO K C te fe):MD K C te (zP fe):=by
 intro F H σ ρ Q r R e P;rcases b8 e with⟨z,e1,rfl⟩|⟨p,e1,hk⟩
 ·exact h F H σ ρ Q _ R e1 P
 ·split at hk
  ·rename_i hp;cases hk;refine h F H σ ρ Q _ R e1 λa F' H' u n1 n2 w=>P _ F' H' (λb=>b=a) u (w.dp hp) ?_;rintro b rfl;obtain⟨ob,eo⟩:=w.ne;exact⟨n1,n2,ob,eo,λys q=>by subst q;exact w.Ek eo⟩
  ·cases hk
section
variable{p:PV}
theorem JZ{κ:Type}{l:List (κ×PV)}{j:Nat}{k:κ}{q p:PV}(h:l[j]?=some (k,q)):(l.set j (k,p)).map (·.1)=l.map (·.1):=by
 rw[List.map_set];exact zN (by rw[Zac,h];rfl)
end
end L2.MP
namespace L2.TS
open PySem PySem.Spec PyProof.Rows
def iV:Bool->Keyed->Array Keyed->Nat->Nat->Nat->StateT SortSt Sem (Option Nat):=sortPriv% PySem.Builtin.gallop
def fH:Nat->StateT SortSt Sem Unit:=sortPriv% PySem.Builtin.setMinGallop
def uK:Array Keyed->Array Keyed->StateT SortSt Sem (Array Keyed):=sortPriv% PySem.Builtin.mergeLo
def uL:Array Keyed->Array Keyed->StateT SortSt Sem (Array Keyed):=sortPriv% PySem.Builtin.mergeHi
noncomputable abbrev bZ(st:SortSt)(g:Nat):SortSt:=SortSt.mk' (kindOf st) (arrOf st) (pendingOf st) g (failedOf st)
theorem eY(g:Nat):fH g=modify λs=>bZ s g:=rfl
def beyond(left:Bool)(key:Keyed)(arr:Array Keyed)(base i:Nat):StateT SortSt Sem (Option Bool):=do
 let x <-elem' arr (base+i)
 if left then lt' x key else return (<-lt' key x).map (!·)
theorem CW(left:Bool)(key:Keyed)(arr:Array Keyed)(base n hint:Nat):iV left key arr base n hint=(do
 let mut lastofs:=0
 let mut ofs:=1
 let mut lo:=0
 let mut hi:=0
 let some right <-beyond left key arr base hint|return none
 if right then
  let maxofs:=n-hint
  for _ in [0:n] do
   if ofs>=maxofs then break
   let some more <-beyond left key arr base (hint+ofs)|return none
   if !more then break
   lastofs:=ofs
   ofs:=2*ofs+1
  lo:=hint+lastofs+1
  hi:=hint+min ofs maxofs
 else
  let maxofs:=hint+1
  for _ in [0:n] do
   if ofs>=maxofs then break
   let some found <-beyond left key arr base (hint-ofs)|return none
   if found then break
   lastofs:=ofs
   ofs:=2*ofs+1
  lo:=hint+1-min ofs maxofs
  hi:=hint-lastofs
 for _ in [0:n] do
  if lo>=hi then break
  let m:=lo+(hi-lo)/2
  let some more <-beyond left key arr base m|return none
  if more then lo:=m+1 else hi:=m
 return some hi):=rfl
section
variable{prog:Program}{w:World}{A:Around}{E:Value->Shared->Prop}{s:Shared}{κ:SortKind}{D:Keyed->Prop}{r:Keyed->Nat}{st:SortSt}{left:Bool}{key x y:Keyed}{arr:Array Keyed}{base n hint:Nat}
def Cmp(prog:Program)(w:World)(A:Around)(s:Shared)(κ:SortKind)(D:Keyed->Prop)(r:Keyed->Nat):Prop:=
 ∀ x y,D x->D y->∀ (E:Value->Shared->Prop) (Q:Bool->Shared->Prop),Q (decide (r x<r y)) s->wpAny (model prog w) A (keyLt' κ x.1 y.1) Q E s
theorem uM(hc:Cmp prog w A s κ D r)(hk:kindOf st=κ)(hx:D x)(hy:D y){Q:Option Bool->SortSt->Prop}(h:Q (some (decide (r x<r y))) st):wpS (model prog w) A E s (lt' x y) Q st:=by
 rw[lt'_eq];refine Zam (wpS_get ?_);rw[hk];refine Zam (wpS_lift (wpAny_attempt (hc x y hx hy _ _ ⟨rfl,?_⟩)));exact Zat h
theorem bJ{M:Model}{i:Nat}{Q:Keyed->SortSt->Prop}(e:arr[i]?=some x)(h:Q x st):wpS M A E s (elem' arr i) Q st:=by
 rw[elem'_eq,e];exact Zat h
theorem CZ(hc:Cmp prog w A s κ D r)(hk:kindOf st=κ){i:Nat}(e:arr[base+i]?=some x)(hx:D x)(hy:D key)(ne:r x≠r key){Q:Option Bool->SortSt->Prop}(h:Q (some (decide (r x<r key))) st):wpS (model prog w) A E s (beyond left key arr base i) Q st:=by
 unfold beyond;refine Zam (bJ e ?_);cases left with
 |true=>exact uM hc hk hx hy h
 |false=>
  refine Zam (uM hc hk hy hx (Zat ?_));rw[ZbL,show(!decide (r key<r x))=decide (r x<r key) by
   by_cases q:r key<r x
   ·rw[Zaz q,ZaD (by lia)];rfl
   ·rw[ZaD q,Zaz (by lia)];rfl]
  exact h
theorem qi{M:Model}{f:Nat->Bool}(hb:∀ i,i<n->∀ {Q:Option Bool->SortSt->Prop},Q (some (f i)) st->wpS M A E s (beyond left key arr base i) Q st){lo hi:Nat}(h1:lo<=hi)(h2:hi<=n)(h3:∀ i,i<lo->f i=true)(h4:∀ i,hi<=i->i<n->f i=false)
  (mono:∀ i j,i<=j->j<n->f j=true->f i=true){Q:Option Nat->SortSt->Prop}(h:∀ m,m<=n->(∀ i,i<m->f i=true)->(∀ i,m<=i->i<n->f i=false)->Q (some m) st) :
  wpS M A E s (do
   let mut lo:=lo
   let mut hi:=hi
   for _ in [0:n] do
    if lo>=hi then break
    let m:=lo+(hi-lo)/2
    let some more <-beyond left key arr base m|return none
    if more then lo:=m+1 else hi:=m
   return some hi) Q st:=by
 refine Zam (Za5 (Zba (I:=λk c st'=>st'=st/\∃ lo hi,c=(none,lo,hi)/\lo<=hi/\hi<=n/\(∀ i,i<lo->f i=true)/\(∀ i,hi<=i->i<n->f i=false)/\hi-lo+k<=n)
  (Q:=λc st'=>st'=st/\∃ m,c=(none,m,m)/\m<=n/\(∀ i,i<m->f i=true)/\(∀ i,m<=i->i<n->f i=false)) ?_ ?_ ⟨rfl,lo,hi,rfl,h1,h2,h3,h4,by omega⟩) ?_)
 ·rintro k c st' _ hk ⟨rfl,lo,hi,rfl,g1,g2,g3,g4,g5⟩;dsimp only;by_cases q:lo>=hi
  ·rw[Zah q];have:lo=hi:=by omega
   subst this;exact Zat ⟨rfl,lo,rfl,g2,g3,g4⟩
  ·rw[Zai q];have mlt:lo+(hi-lo)/2<hi:=by omega
   refine Zam (hb _ (by omega) ?_)
   dsimp only;cases e:f (lo+(hi-lo)/2) with
   |true=>
    rw[Zah rfl];exact Zat ⟨rfl,_,hi,rfl,by omega,g2,λi hi'=>mono i _ (by omega) (by omega) e,g4,by omega⟩
   |false=>
    rw[Zai (by decide)]
    refine Zat ⟨rfl,lo,_,rfl,by omega,by omega,g3,λi h1' h2'=>?_,by omega⟩
    cases ef:f i with
    |false=>rfl
    |true=>rw[mono _ i h1' h2' ef] at e;cases e
 ·rintro c st' ⟨rfl,lo,hi,rfl,g1,g2,g3,g4,g5⟩;have:lo=hi:=by omega
  subst this;exact⟨rfl,lo,rfl,g2,g3,g4⟩
 ·rintro c st' ⟨rfl,m,rfl,g1,g2,g3⟩;exact Zat (h m g1 g2 g3)
theorem zQ{M:Model}{f:Nat->Bool}(hb:∀ i,i<n->∀ {Q:Option Bool->SortSt->Prop},Q (some (f i)) st->wpS M A E s (beyond left key arr base i) Q st)(mono:∀ i j,i<=j->j<n->f j=true->f i=true)(hn:hint<n){Q:Option Nat->SortSt->Prop}
  (h:∀ m,m<=n->(∀ i,i<m->f i=true)->(∀ i,m<=i->i<n->f i=false)->Q (some m) st):wpS M A E s (iV left key arr base n hint) Q st:=by
 have anti:∀ i j,i<=j->j<n->f i=false->f j=false:=λi j h1 h2 e=>by
  cases ef:f j with
  |false=>rfl
  |true=>rw[mono i j h1 h2 ef] at e;cases e
 rw[CW];refine Zam (hb hint hn ?_);dsimp only;cases e:f hint with
 |true=>
  simp only[ZbA];refine Zam (Za5 (Zba (I:=λk c st'=>st'=st/\∃ la of,c=(none,la,of)/\la<of/\hint+la<n/\f (hint+la)=true/\k+1<=of)
   (Q:=λc st'=>st'=st/\∃ la of,c=(none,la,of)/\la<of/\hint+la<n/\f (hint+la)=true/\(n-hint<=of\/(hint+of<n/\f (hint+of)=false))) ?_ ?_ ⟨rfl,0,1,rfl,by omega,hn,e,by omega⟩) ?_)
  ·rintro k c st' _ hk ⟨rfl,la,of,rfl,g1,g2,g3,g4⟩;dsimp only;by_cases q:of>=n-hint
   ·rw[Zah q];exact Zat ⟨rfl,la,of,rfl,g1,g2,g3,.inl q⟩
   ·rw[Zai q];refine Zam (hb _ (by omega) ?_)
    dsimp only;cases e2:f (hint+of) with
    |true=>
     rw[Zai (by decide)]
     exact Zat ⟨rfl,of,_,rfl,by omega,by omega,e2,by omega⟩
    |false=>
     rw[Zah (by decide)]
     exact Zat ⟨rfl,la,of,rfl,g1,g2,g3,.inr ⟨by omega,e2⟩⟩
  ·rintro c st' ⟨rfl,la,of,rfl,g1,g2,g3,g4⟩;exact⟨rfl,la,of,rfl,g1,g2,g3,.inl (by omega)⟩
  ·rintro c st' ⟨rfl,la,of,rfl,g1,g2,g3,g4⟩;refine qi (lo:=hint+la+1) (hi:=hint+min of (n-hint)) hb (by omega) (by omega) (λi hi=>mono i (hint+la) (by omega) g2 g3) (λi h1 h2=>?_) mono h
   rcases g4 with q|⟨q1,q2⟩
   ·omega
   ·exact anti (hint+of) i (by omega) h2 q2
 |false=>
  simp only[Zby,Zbm];refine Zam (Za5 (Zba (I:=λk c st'=>st'=st/\∃ la of,c=(none,la,of)/\la<of/\la<=hint/\f (hint-la)=false/\k+1<=of)
   (Q:=λc st'=>st'=st/\∃ la of,c=(none,la,of)/\la<of/\la<=hint/\f (hint-la)=false/\(hint+1<=of\/(of<=hint/\f (hint-of)=true))) ?_ ?_ ⟨rfl,0,1,rfl,by omega,by omega,e,by omega⟩) ?_)
  ·rintro k c st' _ hk ⟨rfl,la,of,rfl,g1,g2,g3,g4⟩;dsimp only;by_cases q:of>=hint+1
   ·rw[Zah q];exact Zat ⟨rfl,la,of,rfl,g1,g2,g3,.inl q⟩
   ·rw[Zai q];refine Zam (hb _ (by omega) ?_)
    dsimp only;cases e2:f (hint-of) with
    |true=>
     rw[Zah rfl];exact Zat ⟨rfl,la,of,rfl,g1,g2,g3,.inr ⟨by omega,e2⟩⟩
    |false=>
     rw[Zai (by decide)]
     exact Zat ⟨rfl,of,_,rfl,by omega,by omega,e2,by omega⟩
  ·rintro c st' ⟨rfl,la,of,rfl,g1,g2,g3,g4⟩;exact⟨rfl,la,of,rfl,g1,g2,g3,.inl (by omega)⟩
  ·rintro c st' ⟨rfl,la,of,rfl,g1,g2,g3,g4⟩;refine qi (lo:=hint+1-min of (hint+1)) (hi:=hint-la) hb (by omega) (by omega) (λi hi=>?_) (λi h1 h2=>anti (hint-la) i (by omega) h2 g3) mono h
   rcases g4 with q|⟨q1,q2⟩
   ·omega
   ·exact mono i (hint-of) (by omega) (by omega) q2
end
theorem zR(i:Nat):mergeAt' i=(do
 let s <-get
 let(some (sa,na,power),some (sb,nb,_)):=((pendingOf s)[i]?,(pendingOf s)[i+1]?)|unsupported "internal:list.sort.pending"
 set (setPending s (((pendingOf s).setIfInBounds i (sa,na+nb,power)).eraseIdxIfInBounds (i+1)))
 let some k <-iV false (<-elem' (arrOf s) sb) (arrOf s) sa na 0|return false
 let(sa,na):=(sa+k,na-k)
 if na==0 then return true
 let some nb <-iV true (<-elem' (arrOf s) (sa+na-1)) (arrOf s) sb nb (nb-1)|return false
 if nb==0 then return true
 let x:=(arrOf s).extract sa sb
 let y:=(arrOf s).extract sb (sb+nb)
 let merged <-if na<=nb then uK x y else uL x y
 modify λs=>setArr s (merged.toList.zipIdx.foldl (λa (p,j)=>a.setIfInBounds (sa+j) p) (arrOf s))
 return (failedOf (<-get)).isNone):=rfl
section
variable{r:Keyed->Nat}{la lb out:List Keyed}{ia ib:Nat}
def Srt(r:Keyed->Nat)(l:List Keyed):Prop:=l.Pairwise λx y=>r x<r y
structure Mg(r:Keyed->Nat)(la lb out:List Keyed)(ia ib:Nat):Prop where
 so:Srt r out
 lt:∀ o∈out,∀ z∈la.drop ia++lb.drop ib,r o<r z
 pm:out.Perm (la.take ia++lb.take ib)
theorem Mg.as(h:Mg r la lb out ia ib)(sa:Srt r la)(k:Nat)(hk:∀ x∈(la.drop ia).take k,∀ y∈lb.drop ib,r x<r y):Mg r la lb (out++(la.drop ia).take k) (ia+k) ib:=by
 have sd:Srt r (la.drop ia):=Zan (ZaZ _ _) sa;have e:la.drop (ia+k)=(la.drop ia).drop k:=by rw[List.drop_drop]
 refine⟨Zao.mpr ⟨h.so,Zan (ZaS _ _) sd,λo ho x hx=>h.lt o ho x (Zab.mpr (.inl (ZaO hx)))⟩,λo ho z hz=>?_,?_⟩
 ·rw[e] at hz;rcases Zab.mp ho with q|q
  ·refine h.lt o q z ?_;rcases Zab.mp hz with w|w
   ·exact Zab.mpr (.inl (ZaY w))
   ·exact Zab.mpr (.inr w)
  ·rcases Zab.mp hz with w|w
   ·have:=sd;rw[<-ZaE k (la.drop ia)] at this;exact(Zao.mp this).2.2 o q z w
   ·exact hk o q z w
 ·rw[List.take_add];refine(h.pm.append_right _).trans ?_;rw[Zar,Zar];exact Zbc _ List.perm_append_comm
theorem Mg.bs(h:Mg r la lb out ia ib)(sb:Srt r lb)(k:Nat)(hk:∀ y∈(lb.drop ib).take k,∀ x∈la.drop ia,r y<r x):Mg r la lb (out++(lb.drop ib).take k) ia (ib+k):=by
 have sd:Srt r (lb.drop ib):=Zan (ZaZ _ _) sb;have e:lb.drop (ib+k)=(lb.drop ib).drop k:=by rw[List.drop_drop]
 refine⟨Zao.mpr ⟨h.so,Zan (ZaS _ _) sd,λo ho x hx=>h.lt o ho x (Zab.mpr (.inr (ZaO hx)))⟩,λo ho z hz=>?_,?_⟩
 ·rw[e] at hz;rcases Zab.mp ho with q|q
  ·refine h.lt o q z ?_;rcases Zab.mp hz with w|w
   ·exact Zab.mpr (.inl w)
   ·exact Zab.mpr (.inr (ZaY w))
  ·rcases Zab.mp hz with w|w
   ·exact hk o q z w
   ·have:=sd;rw[<-ZaE k (lb.drop ib)] at this;exact(Zao.mp this).2.2 o q z w
 ·rw[List.take_add,<-Zar];exact h.pm.append_right _
theorem Mg.end(h:Mg r la lb out ia ib)(sa:Srt r la)(sb:Srt r lb)(hk:∀ x∈la.drop ia,∀ y∈lb.drop ib,r x<r y):Srt r (out++la.drop ia++lb.drop ib)/\(out++la.drop ia++lb.drop ib).Perm (la++lb):=by
 refine⟨?_,?_⟩
 ·rw[Zar];refine Zao.mpr ⟨h.so,Zao.mpr ⟨Zan (ZaZ _ _) sa,Zan (ZaZ _ _) sb,hk⟩,h.lt⟩
 ·have e:(la++lb).Perm (la.take ia++lb.take ib++(la.drop ia++lb.drop ib)):=by
   conv=>lhs;rw[<-ZaE ia la,<-ZaE ib lb]
   simp only[Zar];refine Zbc _ ?_;rw[<-Zar,<-Zar];exact ZbH _ List.perm_append_comm
  rw[Zar];exact(h.pm.append_right _).trans e.symm
theorem Mg.Qz(h:Mg r la lb out ia ib)(sa:Srt r la)(sb:Srt r lb)(hk:∀ x∈la.drop ia,∀ y∈lb.drop ib,r y<r x):Srt r (out++lb.drop ib++la.drop ia)/\(out++lb.drop ib++la.drop ia).Perm (la++lb):=by
 refine⟨?_,?_⟩
 ·rw[Zar];exact Zao.mpr ⟨h.so,Zao.mpr ⟨Zan (ZaZ _ _) sb,Zan (ZaZ _ _) sa,λy hy x hx=>hk x hx y hy⟩,λo ho z hz=>h.lt o ho z (by
   rcases Zab.mp hz with q|q
   ·exact Zab.mpr (.inr q)
   ·exact Zab.mpr (.inl q))⟩
 ·have e:(la++lb).Perm (la.take ia++lb.take ib++(lb.drop ib++la.drop ia)):=by
   conv=>lhs;rw[<-ZaE ia la,<-ZaE ib lb]
   simp only[Zar];refine Zbc _ ?_;refine List.perm_append_comm.trans ?_;rw[Zar]
  rw[Zar];exact(h.pm.append_right _).trans e.symm
end
noncomputable abbrev S7:=Option (Array Keyed)×Array Keyed×Nat×Nat×Nat×Nat×Nat
noncomputable abbrev S6:=Option (Array Keyed)×Array Keyed×Nat×Nat×Nat×Nat
noncomputable abbrev S5:=Option (Array Keyed)×Array Keyed×Nat×Nat×Nat
noncomputable abbrev dnL(a b out:Array Keyed)(ia ib:Nat):Array Keyed:=out++a.extract ia a.size++b.extract ib b.size
noncomputable abbrev laL(a b out:Array Keyed)(ia ib:Nat):Array Keyed:=out++b.extract ib b.size++a.extract ia a.size
def J0(a b out:Array Keyed)(ia ib mg ac bc:Nat):StateT SortSt Sem (ForInStep S7):=do
 let x <-elem' a ia
 if ia+1+1==a.size then return .done (some (laL a b (out.push x) (ia+1) ib),out.push x,ia+1,ib,mg,ac,bc)
 if ac<7&&bc<7 then return .done (none,out.push x,ia+1,ib,mg,ac,bc)
 return .yield (none,out.push x,ia+1,ib,mg,ac,bc)
def J1(a b out:Array Keyed)(ia ib mg ac bc:Nat):StateT SortSt Sem (ForInStep S7):=do
 let y <-elem' b ib
 if ib+1==b.size then return .done (some (dnL a b (out.push y) ia (ib+1)),out.push y,ia,ib+1,mg,ac,bc)
 let some k <-iV true (<-elem' a ia) b (ib+1) (b.size-(ib+1)) 0|return .done (some (dnL a b (out.push y) ia (ib+1)),out.push y,ia,ib+1,mg,ac,bc)
 if k>0 then
  if ib+1+k==b.size then return .done (some (dnL a b (out.push y++b.extract (ib+1) (ib+1+k)) ia (ib+1+k)),out.push y++b.extract (ib+1) (ib+1+k),ia,ib+1+k,mg,ac,k)
  J0 a b (out.push y++b.extract (ib+1) (ib+1+k)) ia (ib+1+k) mg ac k
 else J0 a b (out.push y) ia (ib+1) mg ac k
def Mv(a b out:Array Keyed)(ia ib mg ac bc:Nat):StateT SortSt Sem (ForInStep S7):=do
 fH mg
 let some k <-iV false (<-elem' b ib) a ia (a.size-ia) 0|return .done (some (dnL a b out ia ib),out,ia,ib,mg,ac,bc)
 if k>0 then
  if ia+k+1==a.size then return .done (some (laL a b (out++a.extract ia (ia+k)) (ia+k) ib),out++a.extract ia (ia+k),ia+k,ib,mg,k,bc)
  if ia+k==a.size then return .done (some (dnL a b (out++a.extract ia (ia+k)) (ia+k) ib),out++a.extract ia (ia+k),ia+k,ib,mg,k,bc)
  J1 a b (out++a.extract ia (ia+k)) (ia+k) ib mg k bc
 else J1 a b out ia ib mg k bc
def QB(a b:Array Keyed)(c:S7):StateT SortSt Sem (ForInStep S7):=
 if c.2.2.2.2.1>1 then Mv a b c.2.1 c.2.2.1 c.2.2.2.1 (c.2.2.2.2.1-1) c.2.2.2.2.2.1 c.2.2.2.2.2.2 else Mv a b c.2.1 c.2.2.1 c.2.2.2.1 c.2.2.2.2.1 c.2.2.2.2.2.1 c.2.2.2.2.2.2
def QC(a b:Array Keyed)(mg:Nat)(c:S6):StateT SortSt Sem (ForInStep S6):=do
 let some bWins <-lt' (<-elem' b c.2.2.2.1) (<-elem' a c.2.2.1)|return .done (some (dnL a b c.2.1 c.2.2.1 c.2.2.2.1),c.2.1,c.2.2.1,c.2.2.2.1,c.2.2.2.2.1,c.2.2.2.2.2)
 if bWins then
  let y <-elem' b c.2.2.2.1
  if c.2.2.2.1+1==b.size then return .done (some (dnL a b (c.2.1.push y) c.2.2.1 (c.2.2.2.1+1)),c.2.1.push y,c.2.2.1,c.2.2.2.1+1,0,c.2.2.2.2.2+1)
  if c.2.2.2.2.2+1>=mg then return .done (none,c.2.1.push y,c.2.2.1,c.2.2.2.1+1,0,c.2.2.2.2.2+1)
  return .yield (none,c.2.1.push y,c.2.2.1,c.2.2.2.1+1,0,c.2.2.2.2.2+1)
 else
  let x <-elem' a c.2.2.1
  if c.2.2.1+1+1==a.size then return .done (some (laL a b (c.2.1.push x) (c.2.2.1+1) c.2.2.2.1),c.2.1.push x,c.2.2.1+1,c.2.2.2.1,c.2.2.2.2.1+1,0)
  if c.2.2.2.2.1+1>=mg then return .done (none,c.2.1.push x,c.2.2.1+1,c.2.2.2.1,c.2.2.2.2.1+1,0)
  return .yield (none,c.2.1.push x,c.2.2.1+1,c.2.2.2.1,c.2.2.2.2.1+1,0)
def QD(a b:Array Keyed)(c:S5):StateT SortSt Sem (ForInStep S5):=do
 let d <-forIn [0:a.size+b.size] ((none,c.2.1,c.2.2.1,c.2.2.2.1,0,0):S6) λ_ d=>QC a b c.2.2.2.2 d
 match d.1 with
 |some r=>pure (.done (some r,d.2.1,d.2.2.1,d.2.2.2.1,c.2.2.2.2))
 |none=>do
  rule "list.sort.gallop"
  let e <-forIn [0:a.size+b.size] ((none,d.2.1,d.2.2.1,d.2.2.2.1,c.2.2.2.2+1,d.2.2.2.2.1,d.2.2.2.2.2):S7) λ_ e=>QB a b e
  match e.1 with
  |some r=>pure (.done (some r,e.2.1,e.2.2.1,e.2.2.2.1,e.2.2.2.2.1))
  |none=>do
   fH (e.2.2.2.2.1+1)
   pure (.yield (none,e.2.1,e.2.2.1,e.2.2.2.1,e.2.2.2.2.1+1))
def zT(a b:Array Keyed):StateT SortSt Sem (Array Keyed):=do
 rule "list.sort.merge-lo"
 let y <-elem' b 0
 if 1==b.size then return dnL a b #[y] 0 1
 if 0+1==a.size then return laL a b #[y] 0 1
 let s <-get
 let c <-forIn [0:a.size+b.size] ((none,#[y],0,1,gallopOf s):S5) λ_ c=>QD a b c
 match c.1 with
 |some r=>pure r
 |none=>unsupported "internal:list.sort.merge-bound"
theorem zU(a b:Array Keyed):uK a b=zT a b:=by
 kernel_rfl
section
variable{prog:Program}{w:World}{A:Around}{E:Value->Shared->Prop}{s:Shared}{κ:SortKind}{D:Keyed->Prop}{r:Keyed->Nat}{st:SortSt}{a b:Array Keyed}
theorem jY{M:Model}{x:String}{Q:Unit->SortSt->Prop}(h:Q () st):wpS M A E s (rule x:StateT SortSt Sem Unit) Q st:=wpS_lift (wpAny_rule ⟨rfl,h⟩)
theorem ext_toList(a:Array Keyed)(i j:Nat)(h:i<=j)(hj:j<=a.size):(a.extract i j).toList=(a.toList.drop i).take (j-i):=by
 simp[Array.toList_extract,List.extract]
theorem tE(a:Array Keyed)(i:Nat):(a.extract i a.size).toList=a.toList.drop i:=by
 rw[Array.toList_extract];simp[List.extract];exact ZaX (by simp)
structure xV(D:Keyed->Prop)(r:Keyed->Nat)(a b:Array Keyed):Prop where
 da:∀ x∈a.toList,D x
 db:∀ x∈b.toList,D x
 sa:Srt r a.toList
 sb:Srt r b.toList
 ne:∀ x∈a.toList,∀ y∈b.toList,r x≠r y
 la:∀ x,a.toList[a.size-1]?=some x->∀ y∈b.toList,r y<r x
def Good(r:Keyed->Nat)(a b out:Array Keyed):Prop:=Srt r out.toList/\out.toList.Perm (a.toList++b.toList)
theorem qj{out:Array Keyed}{ia ib:Nat}(o:xV D r a b)(m:Mg r a.toList b.toList out.toList ia ib)(h:ib=b.size\/ia=a.size):Good r a b (dnL a b out ia ib):=by
 have e:=m.end o.sa o.sb (λx hx y hy=>by
  rcases h with q|q
  ·rw[q,Zbg (by simp)] at hy;cases hy
  ·rw[q,Zbg (by simp)] at hx;cases hx)
 unfold Good dnL;rw[ZaI,ZaI,tE,tE];exact e
theorem tG{out:Array Keyed}{ia ib:Nat}(o:xV D r a b)(m:Mg r a.toList b.toList out.toList ia ib)(h:ia+1=a.size):Good r a b (laL a b out ia ib):=by
 have e:=m.Qz o.sa o.sb (λx hx y hy=>by
  have:a.toList.drop ia=[a.toList[ia]'(by simp;lia)]:=by
   rw[ZaR (by simp;lia),Zbg (by simp;lia)]
  rw[this,Zaj] at hx;refine o.la x ?_ y (ZaY hy);rw[hx,show a.size-1=ia by lia]
  exact Zaa (by simp;lia))
 unfold Good laL;rw[ZaI,ZaI,tE,tE];exact e
theorem gJ{left:Bool}{key:Keyed}{arr:Array Keyed}{base n hint:Nat}{L:List Keyed}(hc:Cmp prog w A s κ D r)(hk:kindOf st=κ)(hn:hint<n)(hb:base+n<=arr.size)(hL:(arr.toList.drop base).take n=L)(dk:D key)(dl:∀ x∈L,D x/\r x≠r key)(sl:Srt r L){Q:Option Nat->SortSt->Prop}
  (h:∀ k,k<=n->(∀ x∈L.take k,r x<r key)->(∀ x∈L.drop k,r key<r x)->Q (some k) st):wpS (model prog w) A E s (iV left key arr base n hint) Q st:=by
 have ll:L.length=n:=by rw[<-hL];simp;lia
 have at_:∀ i (hi:i<n),arr[base+i]?=some (L[i]'(by lia)):=λi hi=>by
  rw[<-ZaN];have:L[i]?=arr.toList[base+i]?:=by
   rw[<-hL,List.getElem?_take,Zah hi,List.getElem?_drop]
  rw[<-this,Zaa]
 have mem:∀ i (hi:i<n),L[i]'(by lia)∈L:=λi hi=>List.getElem_mem _
 refine zQ (f:=λi=>if hi:i<n then decide (r (L[i]'(by lia))<r key) else false) (λi hi Q q=>?_) (λi j hij hj e=>?_) hn λm hm g1 g2=>?_
 ·rw[dif_pos hi] at q;exact CZ hc hk (at_ i hi) (dl _ (mem i hi)).1 dk (dl _ (mem i hi)).2 q
 ·rw[dif_pos hj] at e;rw[dif_pos (by lia)]
  have e:=ZaT e;refine Zaz ?_;by_cases q:i=j
  ·subst q;exact e
  ·exact ZbN (Zbz.mp sl i j (by lia) (by lia) (by lia)) e
 ·refine h m hm (λx hx=>?_) λx hx=>?_
  ·obtain⟨i,hi,rfl⟩:=List.mem_iff_getElem.mp hx;rw[Zbu] at hi;have:=g1 i (by lia)
   rw[dif_pos (by lia)] at this
   rw[List.getElem_take];exact ZaT this
  ·obtain⟨i,hi,rfl⟩:=List.mem_iff_getElem.mp hx;rw[List.length_drop] at hi;have:=g2 (m+i) (by lia) (by lia)
   rw[dif_pos (by lia)] at this
   rw[List.getElem_drop];have t1:=of_decide_eq_false this;have t2:=(dl _ (mem (m+i) (by lia))).2
   lia
structure In(r:Keyed->Nat)(a b out:Array Keyed)(ia ib:Nat):Prop where
 mg:Mg r a.toList b.toList out.toList ia ib
 ha:ia+1<a.size
 hb:ib<b.size
def P7(r:Keyed->Nat)(a b:Array Keyed)(n:Nat):ForInStep S7->Prop
 |.done (some o,_)=>Good r a b o
 |.done (none,out,ia,ib,_)=>In r a b out ia ib/\n<=ia+ib
 |.yield (none,out,ia,ib,_)=>In r a b out ia ib/\n<=ia+ib
 |.yield (some _,_)=>False
theorem take1{l:List Keyed}{i:Nat}{x:Keyed}(h:l[i]?=some x):(l.drop i).take 1=[x]/\l.drop i=x::l.drop (i+1):=by
 have hi:=(Zay.mp h).1;have e:l.drop i=x::l.drop (i+1):=by
  rw[ZaR hi];congr 1
  rw[Zaa hi] at h;exact Zad h
 rw[e];exact⟨rfl,rfl⟩
theorem mJ{l:List Keyed}{i:Nat}{x:Keyed}(sl:Srt r l)(h:l[i]?=some x):∀ z∈l.drop i,r x<=r z:=λz hz=>by
 have:=Zan (ZaZ i l) sl;rw[(take1 h).2] at hz this;rcases ZaW.mp hz with q|q
 ·rw[q];exact Zag _
 ·exact ZaF ((List.pairwise_cons.mp this).1 z q)
theorem Mw{M:Model}{out:Array Keyed}{ia ib mg ac bc:Nat}(o:xV D r a b)(i:In r a b out ia ib)(hx:∀ x,a.toList[ia]?=some x->∀ y∈b.toList.drop ib,r x<r y) :
  wpS M A E s (J0 a b out ia ib mg ac bc) (λc st'=>st'=st/\P7 r a b (ia+ib+1) c) st:=by
 obtain⟨x,ex⟩:∃ x,a.toList[ia]?=some x:=⟨_,Zaa (by have:=i.ha;simp;lia)⟩
 have t1:=take1 ex;have m:Mg r a.toList b.toList (out.push x).toList (ia+1) ib:=by
  have:=i.mg.as o.sa 1 (by rw[t1.1];intro z hz;rw[Zaj.mp hz];exact hx x ex)
  rw[t1.1] at this;rw[Zbn];exact this
 have ha:=i.ha;have hb:=i.hb;unfold J0;refine Zam (bJ (x:=x) (by rw[<-ZaN];exact ex) ?_)
 by_cases q:ia+1+1=a.size
 ·rw[Zah (by simpa using q)]
  exact Zat ⟨rfl,tG o m q⟩
 ·rw[Zai (by simpa using q)]
  have I:In r a b (out.push x) (ia+1) ib:=⟨m,by lia,hb⟩
  split
  ·exact Zat ⟨rfl,I,by lia⟩
  ·exact Zat ⟨rfl,I,by lia⟩
end
section
variable{prog:Program}{w:World}{A:Around}{E:Value->Shared->Prop}{s:Shared}{κ:SortKind}{D:Keyed->Prop}{r:Keyed->Nat}{st:SortSt}{a b:Array Keyed}
theorem P7.mono{n m:Nat}(h:n<=m):∀ {c:ForInStep S7},P7 r a b m c->P7 r a b n c
 |.done (some _,_),p=>p
 |.done (none,_,_,_,_),p=>⟨p.1,ZaQ h p.2⟩
 |.yield (none,_,_,_,_),p=>⟨p.1,ZaQ h p.2⟩
 |.yield (some _,_),p=>p
theorem getL{l:Array Keyed}{i:Nat}(h:i<l.size):∃ x,l.toList[i]?=some x/\l[i]?=some x:=⟨_,Zaa (by simpa using h),by rw[Za8 h,Array.getElem_toList]⟩
theorem lU{l:Array Keyed}{i:Nat}{x:Keyed}(h:l.toList[i]?=some x):x∈l.toList:=ZaC h
theorem wA(l:Array Keyed)(i:Nat)(h:i<=l.size):(l.toList.drop i).take (l.size-i)=l.toList.drop i:=ZaX (by simp)
theorem Mx{out:Array Keyed}{ia ib mg ac bc:Nat}(hc:Cmp prog w A s κ D r)(hk:kindOf st=κ)(o:xV D r a b)(i:In r a b out ia ib)(hy:∀ y,b.toList[ib]?=some y->∀ x∈a.toList.drop ia,r y<r x) :
  wpS (model prog w) A E s (J1 a b out ia ib mg ac bc) (λc st'=>st'=st/\P7 r a b (ia+ib+1) c) st:=by
 have ha:=i.ha;have hb:=i.hb;obtain⟨y,ey,ey'⟩:=getL hb;have t1:=take1 ey;have m:Mg r a.toList b.toList (out.push y).toList ia (ib+1):=by
  have:=i.mg.bs o.sb 1 (by rw[t1.1];intro z hz;rw[Zaj.mp hz];exact hy y ey)
  rw[t1.1] at this;rw[Zbn];exact this
 unfold J1;refine Zam (bJ ey' ?_);by_cases q:ib+1=b.size
 ·rw[Zah (by simpa using q)]
  exact Zat ⟨rfl,qj o m (.inl q)⟩
 ·rw[Zai (by simpa using q)]
  obtain⟨x,ex,ex'⟩:=getL (l:=a) (i:=ia) (by omega)
  refine Zam (bJ ex' ?_);refine Zam (gJ hc hk (by omega) (by omega) (wA b (ib+1) (by omega)) (o.da x (lU ex)) (λz hz=>⟨o.db z (ZaY hz),λe=>o.ne x (lU ex) z (ZaY hz) e.symm⟩) (Zan (ZaZ _ _) o.sb) λk hk' g1 g2=>?_)
  dsimp only;rw[List.drop_drop] at g2;have fin:∀ {o2:Array Keyed}{j:Nat},Mg r a.toList b.toList o2.toList ia j->j=ib+1+k->¬j=b.size->wpS (model prog w) A E s (J0 a b o2 ia j mg ac k) (λc st'=>st'=st/\P7 r a b (ia+ib+1) c) st:=λ{o2 j} m2 e ne=>by
   refine Za5 (Mw o ⟨m2,ha,by omega⟩ λx' ex2 z hz=>?_) λc st' p=>⟨p.1,P7.mono (by omega) p.2⟩
   rw[ex] at ex2;cases ex2;rw[e] at hz;exact g2 z hz
  by_cases q2:k>0
  ·rw[Zah q2];have m2:Mg r a.toList b.toList (out.push y++b.extract (ib+1) (ib+1+k)).toList ia (ib+1+k):=by
    have:=m.bs o.sb k λz hz x' hx'=>Zap (g1 z hz) (mJ o.sa ex x' hx');rw[ZaI,ext_toList b _ _ (by omega) (by omega),ZbC]
    exact this
   by_cases q3:ib+1+k=b.size
   ·rw[Zah (by simpa using q3)]
    exact Zat ⟨rfl,qj o m2 (.inl q3)⟩
   ·rw[Zai (by simpa using q3)]
    exact fin m2 rfl q3
  ·rw[Zai q2];exact fin m (by omega) (by omega)
theorem Fp{out:Array Keyed}{ia ib mg ac bc:Nat}(hc:Cmp prog w A s κ D r)(hk:kindOf st=κ)(o:xV D r a b)(i:In r a b out ia ib) :
  wpS (model prog w) A E s (Mv a b out ia ib mg ac bc) (λc st'=>st'=bZ st mg/\P7 r a b (ia+ib+1) c) st:=by
 have ha:=i.ha;have hb:=i.hb;obtain⟨y,ey,ey'⟩:=getL hb;unfold Mv;rw[eY];refine Zam (wpS_modify ?_);refine Zam (bJ ey' ?_);refine Zam (gJ hc (show kindOf (bZ st mg)=κ from hk) (by omega) (by omega) (wA a ia (by omega)) (o.db y (lU ey)) (λz hz=>⟨o.da z (ZaY hz),λe=>o.ne z (ZaY hz) y (lU ey) e⟩) (Zan (ZaZ _ _) o.sa) λk hk' g1 g2=>?_)
 dsimp only;rw[List.drop_drop] at g2;have fin:∀ {o2:Array Keyed}{j:Nat},Mg r a.toList b.toList o2.toList j ib->j=ia+k->j+1<a.size->wpS (model prog w) A E s (J1 a b o2 j ib mg k bc) (λc st'=>st'=bZ st mg/\P7 r a b (ia+ib+1) c) (bZ st mg):=λ{o2 j} m2 e ne=>by
  refine Za5 (Mx hc (show kindOf (bZ st mg)=κ from hk) o ⟨m2,ne,hb⟩ λy' ey2 z hz=>?_) λc st' p=>⟨p.1,P7.mono (by omega) p.2⟩
  rw[ey] at ey2;cases ey2;rw[e] at hz;exact g2 z hz
 by_cases q2:k>0
 ·rw[Zah q2];have m2:Mg r a.toList b.toList (out++a.extract ia (ia+k)).toList (ia+k) ib:=by
   have:=i.mg.as o.sa k λx hx z hz=>Zap (g1 x hx) (mJ o.sb ey z hz);rw[ZaI,ext_toList a _ _ (by omega) (by omega),ZbC]
   exact this
  by_cases q3:ia+k+1=a.size
  ·rw[Zah (by simpa using q3)]
   exact Zat ⟨rfl,tG o m2 q3⟩
  ·rw[Zai (by simpa using q3)]
   by_cases q4:ia+k=a.size
   ·rw[Zah (by simpa using q4)]
    exact Zat ⟨rfl,qj o m2 (.inr q4)⟩
   ·rw[Zai (by simpa using q4)]
    exact fin m2 rfl (by omega)
 ·rw[Zai q2];exact fin i.mg (by omega) (by omega)
theorem My{c:S7}(hc:Cmp prog w A s κ D r)(hk:kindOf st=κ)(o:xV D r a b)(i:In r a b c.2.1 c.2.2.1 c.2.2.2.1) :
  wpS (model prog w) A E s (QB a b c) (λc' st'=>(∃ g,st'=bZ st g)/\P7 r a b (c.2.2.1+c.2.2.2.1+1) c') st:=by
 unfold QB;split
 ·exact Za5 (Fp hc hk o i) λc' st' p=>⟨⟨_,p.1⟩,p.2⟩
 ·exact Za5 (Fp hc hk o i) λc' st' p=>⟨⟨_,p.1⟩,p.2⟩
def P6(r:Keyed->Nat)(a b:Array Keyed)(n:Nat):ForInStep S6->Prop
 |.done (some o,_)=>Good r a b o
 |.done (none,out,ia,ib,_)=>In r a b out ia ib/\n<=ia+ib
 |.yield (none,out,ia,ib,_)=>In r a b out ia ib/\n<=ia+ib
 |.yield (some _,_)=>False
theorem Mz{c:S6}{mg:Nat}(hc:Cmp prog w A s κ D r)(hk:kindOf st=κ)(o:xV D r a b)(i:In r a b c.2.1 c.2.2.1 c.2.2.2.1) :
  wpS (model prog w) A E s (QC a b mg c) (λc' st'=>st'=st/\P6 r a b (c.2.2.1+c.2.2.2.1+1) c') st:=by
 obtain⟨c0,out,ia,ib,ac,bc⟩:=c;have ha:ia+1<a.size:=i.ha;have hb:ib<b.size:=i.hb;obtain⟨y,ey,ey'⟩:=getL hb;obtain⟨x,ex,ex'⟩:=getL (l:=a) (i:=ia) (by lia)
 unfold QC;dsimp only;refine Zam (bJ ey' (Zam (bJ ex' (Zam (uM hc hk (o.db y (lU ey)) (o.da x (lU ex)) ?_)))));dsimp only;have nxy:=o.ne x (lU ex) y (lU ey);by_cases q:r y<r x
 ·rw[Zaz q,Zah rfl];have t1:=take1 ey;have m:Mg r a.toList b.toList (out.push y).toList ia (ib+1):=by
   have:=i.mg.bs o.sb 1 (by rw[t1.1];intro z hz x' hx';rw[Zaj.mp hz];exact Zap q (mJ o.sa ex x' hx'))
   rw[t1.1] at this;rw[Zbn];exact this
  refine Zam (bJ ey' ?_);by_cases q2:ib+1=b.size
  ·rw[Zah (by simpa using q2)]
   exact Zat ⟨rfl,qj o m (.inl q2)⟩
  ·rw[Zai (by simpa using q2)]
   have I:In r a b (out.push y) ia (ib+1):=⟨m,ha,by lia⟩
   split
   ·exact Zat ⟨rfl,I,Nat.le_of_eq (by lia)⟩
   ·exact Zat ⟨rfl,I,Nat.le_of_eq (by lia)⟩
 ·rw[ZaD q,Zai (by decide)]
  have t1:=take1 ex;have m:Mg r a.toList b.toList (out.push x).toList (ia+1) ib:=by
   have:=i.mg.as o.sa 1 (by rw[t1.1];intro z hz y' hy';rw[Zaj.mp hz];exact Zap (by lia) (mJ o.sb ey y' hy'))
   rw[t1.1] at this;rw[Zbn];exact this
  refine Zam (bJ ex' ?_);by_cases q2:ia+1+1=a.size
  ·rw[Zah (by simpa using q2)]
   exact Zat ⟨rfl,tG o m q2⟩
  ·rw[Zai (by simpa using q2)]
   have I:In r a b (out.push x) (ia+1) ib:=⟨m,by lia,hb⟩
   split
   ·exact Zat ⟨rfl,I,Nat.le_of_eq (by lia)⟩
   ·exact Zat ⟨rfl,I,Nat.le_of_eq (by lia)⟩
end
section
variable{prog:Program}{w:World}{A:Around}{E:Value->Shared->Prop}{s:Shared}{κ:SortKind}{D:Keyed->Prop}{r:Keyed->Nat}{st:SortSt}{a b:Array Keyed}
def P5(r:Keyed->Nat)(a b:Array Keyed)(n:Nat):ForInStep S5->Prop
 |.done (some o,_)=>Good r a b o
 |.done (none,_)=>False
 |.yield (none,out,ia,ib,_)=>In r a b out ia ib/\n<=ia+ib
 |.yield (some _,_)=>False
theorem MF{c:S5}(hc:Cmp prog w A s κ D r)(hk:kindOf st=κ)(o:xV D r a b)(i:In r a b c.2.1 c.2.2.1 c.2.2.2.1) :
  wpS (model prog w) A E s (QD a b c) (λc' st'=>(∃ g,st'=bZ st g)/\P5 r a b (c.2.2.1+c.2.2.2.1+1) c') st:=by
 obtain⟨c0,out,ia,ib,mg⟩:=c;have ha:ia+1<a.size:=i.ha;unfold QD;dsimp only;refine Zam (Za5 (Zba (I:=λk d st'=>st'=st/\∃ o2 i2 j2 ac bc,d=((none,o2,i2,j2,ac,bc):S6)/\In r a b o2 i2 j2/\ia+ib+k<=i2+j2)
  (Q:=λd st'=>st'=st/\((∃ o2 x,d=((some o2,x):S6)/\Good r a b o2)\/∃ o2 i2 j2 ac bc,d=((none,o2,i2,j2,ac,bc):S6)/\In r a b o2 i2 j2/\ia+ib+1<=i2+j2)) ?_ ?_ ⟨rfl,out,ia,ib,0,0,rfl,i,Zag _⟩) ?_)
 ·rintro k d st' _ hk' ⟨rfl,o2,i2,j2,ac,bc,rfl,I,hn⟩;refine Za5 (Mz (c:=(none,o2,i2,j2,ac,bc)) hc hk o I) λe st' p=>?_;obtain⟨rfl,p⟩:=p
  match e,p with
  |.done (some o3,x),p=>exact⟨rfl,.inl ⟨o3,x,rfl,p⟩⟩
  |.done (none,o3,i3,j3,a3,b3),p=>exact⟨rfl,.inr ⟨o3,i3,j3,a3,b3,rfl,p.1,by have:i2+j2+1<=i3+j3:=p.2;lia⟩⟩
  |.yield (none,o3,i3,j3,a3,b3),p=>exact⟨rfl,o3,i3,j3,a3,b3,rfl,p.1,by have:i2+j2+1<=i3+j3:=p.2;lia⟩
  |.yield (some _,_),p=>exact p.elim
 ·rintro d st' ⟨rfl,o2,i2,j2,ac,bc,rfl,I,hn⟩;exact⟨rfl,.inr ⟨o2,i2,j2,ac,bc,rfl,I,by lia⟩⟩
 ·rintro d st' ⟨rfl,⟨o2,x,rfl,G⟩|⟨o2,i2,j2,ac,bc,rfl,I,hn⟩⟩
  ·exact Zat ⟨⟨gallopOf st',rfl⟩,G⟩
  ·dsimp only;refine Zam (jY ?_);refine Zam (Za5 (Zba (I:=λk e st2=>(∃ g,st2=bZ st' g)/\∃ o2 i2 j2 mg ac bc,e=((none,o2,i2,j2,mg,ac,bc):S7)/\In r a b o2 i2 j2/\ia+ib+1<=i2+j2)
    (Q:=λe st2=>(∃ g,st2=bZ st' g)/\((∃ o2 x,e=((some o2,x):S7)/\Good r a b o2)\/∃ o2 i2 j2 mg ac bc,e=((none,o2,i2,j2,mg,ac,bc):S7)/\In r a b o2 i2 j2/\ia+ib+1<=i2+j2)) ?_ ?_ ⟨⟨gallopOf st',rfl⟩,o2,i2,j2,_,ac,bc,rfl,I,hn⟩) ?_)
   ·rintro k e st2 _ _ ⟨⟨g,rfl⟩,o3,i3,j3,m3,a3,b3,rfl,I3,hn3⟩;refine Za5 (My (c:=(none,o3,i3,j3,m3,a3,b3)) hc (show kindOf (bZ st' g)=κ from hk) o I3) λe st3 p=>?_;obtain⟨⟨g2,rfl⟩,p⟩:=p
    match e,p with
    |.done (some o4,x),p=>exact⟨⟨g2,rfl⟩,.inl ⟨o4,x,rfl,p⟩⟩
    |.done (none,o4,i4,j4,m4,a4,b4),p=>exact⟨⟨g2,rfl⟩,.inr ⟨o4,i4,j4,m4,a4,b4,rfl,p.1,by have:i3+j3+1<=i4+j4:=p.2;lia⟩⟩
    |.yield (none,o4,i4,j4,m4,a4,b4),p=>exact⟨⟨g2,rfl⟩,o4,i4,j4,m4,a4,b4,rfl,p.1,by have:i3+j3+1<=i4+j4:=p.2;lia⟩
    |.yield (some _,_),p=>exact p.elim
   ·rintro e st2 ⟨G,o3,i3,j3,m3,a3,b3,rfl,I3,hn3⟩;exact⟨G,.inr ⟨o3,i3,j3,m3,a3,b3,rfl,I3,hn3⟩⟩
   ·rintro e st2 ⟨⟨g,rfl⟩,⟨o3,x,rfl,G⟩|⟨o3,i3,j3,m3,a3,b3,rfl,I3,hn3⟩⟩
    ·exact Zat ⟨⟨g,rfl⟩,G⟩
    ·dsimp only;rw[eY];refine Zam (wpS_modify ?_);exact Zat ⟨⟨_,rfl⟩,I3,hn3⟩
theorem zV(hc:Cmp prog w A s κ D r)(hk:kindOf st=κ)(a1:1<=a.size)(b1:1<=b.size)(o:xV D r a b)(hf:∀ y,b.toList[0]?=some y->∀ x∈a.toList,r y<r x){Q:Array Keyed->SortSt->Prop}
  (h:∀ out g,Good r a b out->Q out (bZ st g)):wpS (model prog w) A E s (uK a b) Q st:=by
 rw[zU];unfold zT;refine Zam (jY ?_);obtain⟨y,ey,ey'⟩:=getL (l:=b) (i:=0) (by lia)
 refine Zam (bJ ey' ?_);have t1:=take1 ey;have m:Mg r a.toList b.toList (#[y]:Array Keyed).toList 0 1:=by
  have m0:Mg r a.toList b.toList [] 0 0:=⟨.nil,λ_ h=>(nomatch h),by simp⟩
  have:=m0.bs o.sb 1 (by rw[t1.1];intro z hz x hx;rw[Zaj.mp hz];exact hf y ey x (by simpa using hx))
  rw[t1.1] at this;exact this
 by_cases q:1=b.size
 ·rw[Zah (by simpa using q)]
  exact Zat (h _ (gallopOf st) (qj o m (.inl q)))
 ·rw[Zai (by simpa using q)]
  by_cases q2:0+1=a.size
  ·rw[Zah (by simpa using q2)]
   exact Zat (h _ (gallopOf st) (tG o m q2))
  ·rw[Zai (by simpa using q2)]
   refine Zam (wpS_get ?_);refine Zam (Za5 (Zba (I:=λk c st'=>(∃ g,st'=bZ st g)/\∃ out ia ib mg,c=((none,out,ia,ib,mg):S5)/\In r a b out ia ib/\k+1<=ia+ib)
    (Q:=λc st'=>(∃ g,st'=bZ st g)/\∃ out x,c=((some out,x):S5)/\Good r a b out) ?_ ?_ ⟨⟨gallopOf st,rfl⟩,_,0,1,_,rfl,⟨m,by lia,by lia⟩,by lia⟩) ?_)
   ·rintro k c st' _ hk' ⟨⟨g,rfl⟩,out,ia,ib,mg,rfl,I,hn⟩;refine Za5 (MF (c:=(none,out,ia,ib,mg)) hc (show kindOf (bZ st g)=κ from hk) o I) λe st3 p=>?_;obtain⟨⟨g2,rfl⟩,p⟩:=p
    match e,p with
    |.done (some o4,x),p=>exact⟨⟨g2,rfl⟩,o4,x,rfl,p⟩
    |.done (none,_),p=>exact p.elim
    |.yield (none,o4,i4,j4,m4),p=>exact⟨⟨g2,rfl⟩,o4,i4,j4,m4,rfl,p.1,by have:ia+ib+1<=i4+j4:=p.2;lia⟩
    |.yield (some _,_),p=>exact p.elim
   ·rintro c st' ⟨_,out,ia,ib,mg,rfl,I,hn⟩;have:=I.ha;have:=I.hb;lia
   ·rintro c st' ⟨⟨g,rfl⟩,out,x,rfl,G⟩;exact Zat (h out g G)
end
noncomputable abbrev T7:=Option (Array Keyed)×Nat×Nat×Array Keyed×Nat×Nat×Nat
noncomputable abbrev T6:=Option (Array Keyed)×Nat×Nat×Array Keyed×Nat×Nat
noncomputable abbrev T5:=Option (Array Keyed)×Nat×Nat×Array Keyed×Nat
noncomputable abbrev dnH(a b out:Array Keyed)(na nb:Nat):Array Keyed:=a.extract 0 na++b.extract 0 nb++out.reverse
noncomputable abbrev fbH(a b out:Array Keyed)(na nb:Nat):Array Keyed:=b.extract 0 nb++a.extract 0 na++out.reverse
def J2(a b out:Array Keyed)(na nb mg ac bc:Nat):StateT SortSt Sem (ForInStep T7):=do
 let x <-elem' a (na-1)
 if na-1==0 then return .done (some (dnH a b (out.push x) (na-1) nb),na-1,nb,out.push x,mg,ac,bc)
 if ac<7&&bc<7 then return .done (none,na-1,nb,out.push x,mg,ac,bc)
 return .yield (none,na-1,nb,out.push x,mg,ac,bc)
def J3(a b out:Array Keyed)(na nb mg ac bc:Nat):StateT SortSt Sem (ForInStep T7):=do
 let y <-elem' b (nb-1)
 if nb-1==1 then return .done (some (fbH a b (out.push y) na (nb-1)),na,nb-1,out.push y,mg,ac,bc)
 let some at_ <-iV true (<-elem' a (na-1)) b 0 (nb-1) (nb-1-1)|return .done (some (dnH a b (out.push y) na (nb-1)),na,nb-1,out.push y,mg,ac,bc)
 if nb-1-at_>0 then
  if at_==1 then return .done (some (fbH a b (out.push y++(b.extract at_ (nb-1)).reverse) na at_),na,at_,out.push y++(b.extract at_ (nb-1)).reverse,mg,ac,nb-1-at_)
  if at_==0 then return .done (some (dnH a b (out.push y++(b.extract at_ (nb-1)).reverse) na at_),na,at_,out.push y++(b.extract at_ (nb-1)).reverse,mg,ac,nb-1-at_)
  J2 a b (out.push y++(b.extract at_ (nb-1)).reverse) na at_ mg ac (nb-1-at_)
 else J2 a b (out.push y) na (nb-1) mg ac (nb-1-at_)
def MK(a b out:Array Keyed)(na nb mg ac bc:Nat):StateT SortSt Sem (ForInStep T7):=do
 fH mg
 let some at_ <-iV false (<-elem' b (nb-1)) a 0 na (na-1)|return .done (some (dnH a b out na nb),na,nb,out,mg,ac,bc)
 if na-at_>0 then
  if at_==0 then return .done (some (dnH a b (out++(a.extract at_ na).reverse) at_ nb),at_,nb,out++(a.extract at_ na).reverse,mg,na-at_,bc)
  J3 a b (out++(a.extract at_ na).reverse) at_ nb mg (na-at_) bc
 else J3 a b out na nb mg (na-at_) bc
def QF(a b:Array Keyed)(c:T7):StateT SortSt Sem (ForInStep T7):=
 if c.2.2.2.2.1>1 then MK a b c.2.2.2.1 c.2.1 c.2.2.1 (c.2.2.2.2.1-1) c.2.2.2.2.2.1 c.2.2.2.2.2.2 else MK a b c.2.2.2.1 c.2.1 c.2.2.1 c.2.2.2.2.1 c.2.2.2.2.2.1 c.2.2.2.2.2.2
def QG(a b:Array Keyed)(mg:Nat)(c:T6):StateT SortSt Sem (ForInStep T6):=do
 let some aWins <-lt' (<-elem' b (c.2.2.1-1)) (<-elem' a (c.2.1-1))|return .done (some (dnH a b c.2.2.2.1 c.2.1 c.2.2.1),c.2.1,c.2.2.1,c.2.2.2.1,c.2.2.2.2.1,c.2.2.2.2.2)
 if aWins then
  let x <-elem' a (c.2.1-1)
  if c.2.1-1==0 then return .done (some (dnH a b (c.2.2.2.1.push x) (c.2.1-1) c.2.2.1),c.2.1-1,c.2.2.1,c.2.2.2.1.push x,c.2.2.2.2.1+1,0)
  if c.2.2.2.2.1+1>=mg then return .done (none,c.2.1-1,c.2.2.1,c.2.2.2.1.push x,c.2.2.2.2.1+1,0)
  return .yield (none,c.2.1-1,c.2.2.1,c.2.2.2.1.push x,c.2.2.2.2.1+1,0)
 else
  let y <-elem' b (c.2.2.1-1)
  if c.2.2.1-1==1 then return .done (some (fbH a b (c.2.2.2.1.push y) c.2.1 (c.2.2.1-1)),c.2.1,c.2.2.1-1,c.2.2.2.1.push y,0,c.2.2.2.2.2+1)
  if c.2.2.2.2.2+1>=mg then return .done (none,c.2.1,c.2.2.1-1,c.2.2.2.1.push y,0,c.2.2.2.2.2+1)
  return .yield (none,c.2.1,c.2.2.1-1,c.2.2.2.1.push y,0,c.2.2.2.2.2+1)
def QH(a b:Array Keyed)(c:T5):StateT SortSt Sem (ForInStep T5):=do
 let d <-forIn [0:a.size+b.size] ((none,c.2.1,c.2.2.1,c.2.2.2.1,0,0):T6) λ_ d=>QG a b c.2.2.2.2 d
 match d.1 with
 |some r=>pure (.done (some r,d.2.1,d.2.2.1,d.2.2.2.1,c.2.2.2.2))
 |none=>do
  rule "list.sort.gallop"
  let e <-forIn [0:a.size+b.size] ((none,d.2.1,d.2.2.1,d.2.2.2.1,c.2.2.2.2+1,d.2.2.2.2.1,d.2.2.2.2.2):T7) λ_ e=>QF a b e
  match e.1 with
  |some r=>pure (.done (some r,e.2.1,e.2.2.1,e.2.2.2.1,e.2.2.2.2.1))
  |none=>do
   fH (e.2.2.2.2.1+1)
   pure (.yield (none,e.2.1,e.2.2.1,e.2.2.2.1,e.2.2.2.2.1+1))
def zW(a b:Array Keyed):StateT SortSt Sem (Array Keyed):=do
 rule "list.sort.merge-hi"
 let x <-elem' a (a.size-1)
 if a.size-1==0 then return dnH a b #[x] (a.size-1) b.size
 if b.size==1 then return fbH a b #[x] (a.size-1) b.size
 let s <-get
 let c <-forIn [0:a.size+b.size] ((none,a.size-1,b.size,#[x],gallopOf s):T5) λ_ c=>QH a b c
 match c.1 with
 |some r=>pure r
 |none=>unsupported "internal:list.sort.merge-bound"
theorem zX(a b:Array Keyed):uL a b=zW a b:=by
 kernel_rfl
section
variable{r:Keyed->Nat}{la lb out:List Keyed}{na nb:Nat}
structure Mh(r:Keyed->Nat)(la lb out:List Keyed)(na nb:Nat):Prop where
 so:Srt r out.reverse
 lt:∀ o∈out,∀ z∈la.take na++lb.take nb,r z<r o
 pm:out.Perm (la.drop na++lb.drop nb)
theorem kW(l:List Keyed){i j:Nat}(h:i<=j):l.drop i=(l.take j).drop i++l.drop j:=by
 conv=>lhs;rw[<-ZaE j l]
 by_cases q:j<=l.length
 ·rw[List.drop_append_of_le_length (by simp;lia)]
 ·rw[show l.drop j=[] from Zbg (by lia),ZaM,ZaM]
theorem Mh.as(h:Mh r la lb out na nb)(sa:Srt r la){i:Nat}(hi:i<=na)(hk:∀ x∈(la.take na).drop i,∀ y∈lb.take nb,r y<r x):Mh r la lb (out++((la.take na).drop i).reverse) i nb:=by
 have st:Srt r (la.take na):=Zan (ZaS _ _) sa;have e:la.take i=(la.take na).take i:=by rw[Zbr,Zbi hi]
 have sp:Srt r ((la.take na).take i++(la.take na).drop i):=by rw[ZaE];exact st
 refine⟨?_,λo ho z hz=>?_,?_⟩
 ·rw[List.reverse_append,List.reverse_reverse];exact Zao.mpr ⟨Zan (ZaZ _ _) st,h.so,λx hx o ho=>h.lt o (ZbF.mp ho) x (Zab.mpr (.inl (ZaY hx)))⟩
 ·rw[e] at hz;rcases Zab.mp ho with q|q
  ·refine h.lt o q z ?_;rcases Zab.mp hz with w|w
   ·exact Zab.mpr (.inl (ZaO w))
   ·exact Zab.mpr (.inr w)
  ·have q:=ZbF.mp q;rcases Zab.mp hz with w|w
   ·exact(Zao.mp sp).2.2 z w o q
   ·exact hk o q z w
 ·rw[kW la hi,Zar];refine(List.Perm.append h.pm (List.reverse_perm _)).trans ?_;exact List.perm_append_comm
theorem Mh.bs(h:Mh r la lb out na nb)(sb:Srt r lb){i:Nat}(hi:i<=nb)(hk:∀ y∈(lb.take nb).drop i,∀ x∈la.take na,r x<r y):Mh r la lb (out++((lb.take nb).drop i).reverse) na i:=by
 have st:Srt r (lb.take nb):=Zan (ZaS _ _) sb;have e:lb.take i=(lb.take nb).take i:=by rw[Zbr,Zbi hi]
 have sp:Srt r ((lb.take nb).take i++(lb.take nb).drop i):=by rw[ZaE];exact st
 refine⟨?_,λo ho z hz=>?_,?_⟩
 ·rw[List.reverse_append,List.reverse_reverse];exact Zao.mpr ⟨Zan (ZaZ _ _) st,h.so,λx hx o ho=>h.lt o (ZbF.mp ho) x (Zab.mpr (.inr (ZaY hx)))⟩
 ·rw[e] at hz;rcases Zab.mp ho with q|q
  ·refine h.lt o q z ?_;rcases Zab.mp hz with w|w
   ·exact Zab.mpr (.inl w)
   ·exact Zab.mpr (.inr (ZaO w))
  ·have q:=ZbF.mp q;rcases Zab.mp hz with w|w
   ·exact hk o q z w
   ·exact(Zao.mp sp).2.2 z w o q
 ·rw[kW lb hi];refine(List.Perm.append h.pm (List.reverse_perm _)).trans ?_;rw[Zar];refine Zbc _ ?_;exact List.perm_append_comm
theorem J4(la lb:List Keyed)(na nb:Nat):(la.take na++lb.take nb++(la.drop na++lb.drop nb)).Perm (la++lb):=by
 conv=>rhs;rw[<-ZaE na la,<-ZaE nb lb]
 simp only[Zar];refine Zbc _ ?_;rw[<-Zar,<-Zar];exact ZbH _ List.perm_append_comm
theorem Mh.end(h:Mh r la lb out na nb)(sa:Srt r la)(sb:Srt r lb)(hk:∀ x∈la.take na,∀ y∈lb.take nb,r x<r y):Srt r (la.take na++lb.take nb++out.reverse)/\(la.take na++lb.take nb++out.reverse).Perm (la++lb):=by
 refine⟨Zao.mpr ⟨Zao.mpr ⟨Zan (ZaS _ _) sa,Zan (ZaS _ _) sb,hk⟩,h.so,λz hz o ho=>h.lt o (ZbF.mp ho) z hz⟩,?_⟩;exact(Zbc _ ((List.reverse_perm _).trans h.pm)).trans (J4 la lb na nb)
theorem Mh.Qz(h:Mh r la lb out na nb)(sa:Srt r la)(sb:Srt r lb)(hk:∀ x∈la.take na,∀ y∈lb.take nb,r y<r x):Srt r (lb.take nb++la.take na++out.reverse)/\(lb.take nb++la.take na++out.reverse).Perm (la++lb):=by
 refine⟨Zao.mpr ⟨Zao.mpr ⟨Zan (ZaS _ _) sb,Zan (ZaS _ _) sa,λy hy x hx=>hk x hx y hy⟩,h.so,λz hz o ho=>h.lt o (ZbF.mp ho) z (by
  rcases Zab.mp hz with q|q
  ·exact Zab.mpr (.inr q)
  ·exact Zab.mpr (.inl q))⟩,?_⟩
 refine(List.Perm.append List.perm_append_comm ((List.reverse_perm _).trans h.pm)).trans (J4 la lb na nb)
end
section
variable{prog:Program}{w:World}{A:Around}{E:Value->Shared->Prop}{s:Shared}{κ:SortKind}{D:Keyed->Prop}{r:Keyed->Nat}{st:SortSt}{a b:Array Keyed}
structure xW(D:Keyed->Prop)(r:Keyed->Nat)(a b:Array Keyed):Prop where
 da:∀ x∈a.toList,D x
 db:∀ x∈b.toList,D x
 sa:Srt r a.toList
 sb:Srt r b.toList
 ne:∀ x∈a.toList,∀ y∈b.toList,r x≠r y
 fb:∀ y,b.toList[0]?=some y->∀ x∈a.toList,r y<r x
theorem ql(a:Array Keyed)(j:Nat)(h:j<=a.size):(a.extract 0 j).toList=a.toList.take j:=by
 rw[ext_toList a 0 j (Zbb _) h,Zbe,Nat.sub_zero]
theorem Fq(a:Array Keyed)(i j:Nat)(h:i<=j)(hj:j<=a.size):(a.extract i j).reverse.toList=((a.toList.take j).drop i).reverse:=by
 rw[Array.toList_reverse,ext_toList a i j h hj,List.drop_take]
theorem zY{out:Array Keyed}{na nb:Nat}(o:xW D r a b)(m:Mh r a.toList b.toList out.toList na nb)(ha:na<=a.size)(hb:nb<=b.size)(h:na=0\/nb=0):Good r a b (dnH a b out na nb):=by
 have e:=m.end o.sa o.sb (λx hx y hy=>by
  rcases h with q|q
  ·rw[q] at hx;cases hx
  ·rw[q] at hy;cases hy)
 unfold Good dnH;rw[ZaI,ZaI,ql a na ha,ql b nb hb,Array.toList_reverse];exact e
theorem Ft{out:Array Keyed}{na nb:Nat}(o:xW D r a b)(m:Mh r a.toList b.toList out.toList na nb)(ha:na<=a.size)(hb:nb<=b.size)(h:nb=1):Good r a b (fbH a b out na nb):=by
 have e:=m.Qz o.sa o.sb (λx hx y hy=>by
  rw[h] at hy;obtain⟨y0,e0⟩:∃ y0,b.toList[0]?=some y0:=⟨_,Zaa (by simp;lia)⟩
  have:b.toList.take 1=[y0]:=by
   have:=(take1 e0).1
   rwa [Zbe] at this
  rw[this,Zaj] at hy;rw[hy];exact o.fb y0 e0 x (ZaO hx))
 unfold Good fbH;rw[ZaI,ZaI,ql a na ha,ql b nb hb,Array.toList_reverse];exact e
structure Ih(r:Keyed->Nat)(a b out:Array Keyed)(na nb:Nat):Prop where
 mh:Mh r a.toList b.toList out.toList na nb
 a0:1<=na
 a1:na<=a.size
 b0:2<=nb
 b1:nb<=b.size
def H7(r:Keyed->Nat)(a b:Array Keyed)(n:Nat):ForInStep T7->Prop
 |.done (some o,_)=>Good r a b o
 |.done (none,na,nb,out,_)=>Ih r a b out na nb/\na+nb<=n
 |.yield (none,na,nb,out,_)=>Ih r a b out na nb/\na+nb<=n
 |.yield (some _,_)=>False
theorem H7.mono{n m:Nat}(h:n<=m):∀ {c:ForInStep T7},H7 r a b n c->H7 r a b m c
 |.done (some _,_),p=>p
 |.done (none,_,_,_,_),p=>⟨p.1,ZaQ p.2 h⟩
 |.yield (none,_,_,_,_),p=>⟨p.1,ZaQ p.2 h⟩
 |.yield (some _,_),p=>p
theorem Fv{l:List Keyed}{n:Nat}{x:Keyed}(h0:1<=n)(h:l[n-1]?=some x):(l.take n).drop (n-1)=[x]:=by
 have hi:=(Zay.mp h).1;have e:l.take n=l.take (n-1)++[x]:=by
  conv=>lhs;rw[show n=n-1+1 by lia]
  rw[List.take_succ,h];rfl
 rw[e,List.drop_left' (by simp;lia)]
theorem mK{l:List Keyed}{n:Nat}{x:Keyed}(sl:Srt r l)(h0:1<=n)(h:l[n-1]?=some x):∀ z∈l.take n,r z<=r x:=λz hz=>by
 have e:l.take n=l.take (n-1)++[x]:=by
  conv=>lhs;rw[show n=n-1+1 by omega]
  rw[List.take_succ,h];rfl
 have:=Zan (ZaS n l) sl;rw[e] at hz this;rcases Zab.mp hz with q|q
 ·exact ZaF ((Zao.mp this).2.2 z q x (by simp))
 ·rw[Zaj.mp q];exact Zag _
theorem Mh.a1{out:Array Keyed}{na nb:Nat}{x:Keyed}(m:Mh r a.toList b.toList out.toList na nb)(sa:Srt r a.toList)(h0:1<=na)(ex:a.toList[na-1]?=some x)(hx:∀ y∈b.toList.take nb,r y<r x):Mh r a.toList b.toList (out.push x).toList (na-1) nb:=by
 have:=m.as sa (i:=na-1) (by omega) (by rw[Fv h0 ex];intro z hz;rw[Zaj.mp hz];exact hx)
 rw[Fv h0 ex] at this;rw[Zbn];exact this
theorem Mh.b1{out:Array Keyed}{na nb:Nat}{y:Keyed}(m:Mh r a.toList b.toList out.toList na nb)(sb:Srt r b.toList)(h0:1<=nb)(ey:b.toList[nb-1]?=some y)(hy:∀ x∈a.toList.take na,r x<r y):Mh r a.toList b.toList (out.push y).toList na (nb-1):=by
 have:=m.bs sb (i:=nb-1) (by omega) (by rw[Fv h0 ey];intro z hz;rw[Zaj.mp hz];exact hy)
 rw[Fv h0 ey] at this;rw[Zbn];exact this
theorem MN{M:Model}{out:Array Keyed}{na nb mg ac bc:Nat}(o:xW D r a b)(i:Ih r a b out na nb)(hx:∀ x,a.toList[na-1]?=some x->∀ y∈b.toList.take nb,r y<r x) :
  wpS M A E s (J2 a b out na nb mg ac bc) (λc st'=>st'=st/\H7 r a b (na+nb-1) c) st:=by
 obtain⟨mh,a0,a1,b0,b1⟩:=i;obtain⟨x,ex,ex'⟩:=getL (l:=a) (i:=na-1) (by lia)
 have m:=mh.a1 o.sa a0 ex (hx x ex);unfold J2;refine Zam (bJ ex' ?_);by_cases q:na-1=0
 ·rw[Zah (by simpa using q)]
  exact Zat ⟨rfl,zY o m (by lia) b1 (.inl q)⟩
 ·rw[Zai (by simpa using q)]
  have I:Ih r a b (out.push x) (na-1) nb:=⟨m,by lia,by lia,b0,b1⟩
  split
  ·exact Zat ⟨rfl,I,by lia⟩
  ·exact Zat ⟨rfl,I,by lia⟩
theorem M3{out:Array Keyed}{na nb mg ac bc:Nat}(hc:Cmp prog w A s κ D r)(hk:kindOf st=κ)(o:xW D r a b)(i:Ih r a b out na nb)(hy:∀ y,b.toList[nb-1]?=some y->∀ x∈a.toList.take na,r x<r y) :
  wpS (model prog w) A E s (J3 a b out na nb mg ac bc) (λc st'=>st'=st/\H7 r a b (na+nb-1) c) st:=by
 obtain⟨mh,a0,a1,b0,b1⟩:=i;obtain⟨y,ey,ey'⟩:=getL (l:=b) (i:=nb-1) (by omega)
 have m:=mh.b1 o.sb (by omega) ey (hy y ey)
 unfold J3;refine Zam (bJ ey' ?_);by_cases q:nb-1=1
 ·rw[Zah (by simpa using q)]
  exact Zat ⟨rfl,Ft o m a1 (by omega) q⟩
 ·rw[Zai (by simpa using q)]
  obtain⟨x,ex,ex'⟩:=getL (l:=a) (i:=na-1) (by omega)
  refine Zam (bJ ex' ?_);refine Zam (gJ (L:=b.toList.take (nb-1)) hc hk (by omega) (by omega) (by rw[Zbe]) (o.da x (lU ex)) (λz hz=>⟨o.db z (ZaO hz),λe=>o.ne x (lU ex) z (ZaO hz) e.symm⟩) (Zan (ZaS _ _) o.sb) λk hk' g1 g2=>?_)
  dsimp only;rw[Zbr,Zbi hk'] at g1;have fin:∀ {o2:Array Keyed}{j:Nat},Mh r a.toList b.toList o2.toList na j->j=k->2<=j->∀ bc,wpS (model prog w) A E s (J2 a b o2 na j mg ac bc) (λc st'=>st'=st/\H7 r a b (na+nb-1) c) st:=λ{o2 j} m2 e ne bc=>by
   refine Za5 (MN o ⟨m2,a0,a1,ne,by omega⟩ λx' ex2 z hz=>?_) λc st' p=>⟨p.1,H7.mono (by omega) p.2⟩
   rw[ex] at ex2;cases ex2;rw[e] at hz;exact g1 z hz
  by_cases q2:nb-1-k>0
  ·rw[Zah q2];have m2:Mh r a.toList b.toList (out.push y++(b.extract k (nb-1)).reverse).toList na k:=by
    have:=m.bs o.sb (i:=k) (by omega) λz hz x' hx'=>Nat.lt_of_le_of_lt (mK o.sa a0 ex x' hx') (g2 z hz)
    rw[ZaI,Fq b k (nb-1) (by omega) (by omega)]
    exact this
   by_cases q3:k=1
   ·rw[Zah (by simpa using q3)]
    exact Zat ⟨rfl,Ft o m2 a1 (by omega) q3⟩
   ·rw[Zai (by simpa using q3)]
    by_cases q4:k=0
    ·rw[Zah (by simpa using q4)]
     exact Zat ⟨rfl,zY o m2 a1 (by omega) (.inr q4)⟩
    ·rw[Zai (by simpa using q4)]
     exact fin m2 rfl (by omega) _
  ·rw[Zai q2];exact fin m (by omega) (by omega) _
theorem Fw{out:Array Keyed}{na nb mg ac bc:Nat}(hc:Cmp prog w A s κ D r)(hk:kindOf st=κ)(o:xW D r a b)(i:Ih r a b out na nb) :
  wpS (model prog w) A E s (MK a b out na nb mg ac bc) (λc st'=>st'=bZ st mg/\H7 r a b (na+nb-1) c) st:=by
 obtain⟨mh,a0,a1,b0,b1⟩:=i;obtain⟨y,ey,ey'⟩:=getL (l:=b) (i:=nb-1) (by lia)
 unfold MK;rw[eY];refine Zam (wpS_modify ?_);refine Zam (bJ ey' ?_);refine Zam (gJ (L:=a.toList.take na) hc (show kindOf (bZ st mg)=κ from hk) (by lia) (by lia) (by rw[Zbe]) (o.db y (lU ey)) (λz hz=>⟨o.da z (ZaO hz),λe=>o.ne z (ZaO hz) y (lU ey) e⟩) (Zan (ZaS _ _) o.sa) λk hk' g1 g2=>?_)
 dsimp only;rw[Zbr,Zbi hk'] at g1;have fin:∀ {o2:Array Keyed}{j:Nat},Mh r a.toList b.toList o2.toList j nb->j=k->1<=j->∀ ac,wpS (model prog w) A E s (J3 a b o2 j nb mg ac bc) (λc st'=>st'=bZ st mg/\H7 r a b (na+nb-1) c) (bZ st mg):=λ{o2 j} m2 e ne ac=>by
  refine Za5 (M3 hc (show kindOf (bZ st mg)=κ from hk) o ⟨m2,ne,by lia,b0,b1⟩ λy' ey2 z hz=>?_) λc st' p=>⟨p.1,H7.mono (by lia) p.2⟩
  rw[ey] at ey2;cases ey2;rw[e] at hz;exact g1 z hz
 by_cases q2:na-k>0
 ·rw[Zah q2];have m2:Mh r a.toList b.toList (out++(a.extract k na).reverse).toList k nb:=by
   have:=mh.as o.sa (i:=k) (by lia) λx hx z hz=>Nat.lt_of_le_of_lt (mK o.sb (by lia) ey z hz) (g2 x hx)
   rw[ZaI,Fq a k na (by lia) a1]
   exact this
  by_cases q3:k=0
  ·rw[Zah (by simpa using q3)]
   exact Zat ⟨rfl,zY o m2 (by lia) b1 (.inl q3)⟩
  ·rw[Zai (by simpa using q3)]
   exact fin m2 rfl (by lia) _
 ·rw[Zai q2];exact fin mh (by lia) a0 _
theorem M4{c:T7}(hc:Cmp prog w A s κ D r)(hk:kindOf st=κ)(o:xW D r a b)(i:Ih r a b c.2.2.2.1 c.2.1 c.2.2.1) :
  wpS (model prog w) A E s (QF a b c) (λc' st'=>(∃ g,st'=bZ st g)/\H7 r a b (c.2.1+c.2.2.1-1) c') st:=by
 unfold QF;split
 ·exact Za5 (Fw hc hk o i) λc' st' p=>⟨⟨_,p.1⟩,p.2⟩
 ·exact Za5 (Fw hc hk o i) λc' st' p=>⟨⟨_,p.1⟩,p.2⟩
def H6(r:Keyed->Nat)(a b:Array Keyed)(n:Nat):ForInStep T6->Prop
 |.done (some o,_)=>Good r a b o
 |.done (none,na,nb,out,_)=>Ih r a b out na nb/\na+nb<=n
 |.yield (none,na,nb,out,_)=>Ih r a b out na nb/\na+nb<=n
 |.yield (some _,_)=>False
theorem M5{c:T6}{mg:Nat}(hc:Cmp prog w A s κ D r)(hk:kindOf st=κ)(o:xW D r a b)(i:Ih r a b c.2.2.2.1 c.2.1 c.2.2.1) :
  wpS (model prog w) A E s (QG a b mg c) (λc' st'=>st'=st/\H6 r a b (c.2.1+c.2.2.1-1) c') st:=by
 obtain⟨c0,na,nb,out,ac,bc⟩:=c;obtain⟨mh,a0,a1,b0,b1⟩:=i;have a0:1<=na:=a0;have b0:2<=nb:=b0;have a1:na<=a.size:=a1;have b1:nb<=b.size:=b1;obtain⟨y,ey,ey'⟩:=getL (l:=b) (i:=nb-1) (by lia)
 obtain⟨x,ex,ex'⟩:=getL (l:=a) (i:=na-1) (by lia)
 unfold QG;dsimp only;refine Zam (bJ ey' (Zam (bJ ex' (Zam (uM hc hk (o.db y (lU ey)) (o.da x (lU ex)) ?_)))));dsimp only;have nxy:=o.ne x (lU ex) y (lU ey);by_cases q:r y<r x
 ·rw[Zaz q,Zah rfl];have m:=mh.a1 o.sa a0 ex λz hz=>Nat.lt_of_le_of_lt (mK o.sb (by lia) ey z hz) q
  refine Zam (bJ ex' ?_);by_cases q2:na-1=0
  ·rw[Zah (by simpa using q2)]
   exact Zat ⟨rfl,zY o m (by lia) b1 (.inl q2)⟩
  ·rw[Zai (by simpa using q2)]
   have I:Ih r a b (out.push x) (na-1) nb:=⟨m,by lia,by lia,b0,b1⟩
   split
   ·exact Zat ⟨rfl,I,by show na-1+nb<=na+nb-1;lia⟩
   ·exact Zat ⟨rfl,I,by show na-1+nb<=na+nb-1;lia⟩
 ·rw[ZaD q,Zai (by decide)]
  have m:=mh.b1 o.sb (by lia) ey λz hz=>Nat.lt_of_le_of_lt (mK o.sa a0 ex z hz) (by lia)
  refine Zam (bJ ey' ?_);by_cases q2:nb-1=1
  ·rw[Zah (by simpa using q2)]
   exact Zat ⟨rfl,Ft o m a1 (by lia) q2⟩
  ·rw[Zai (by simpa using q2)]
   have I:Ih r a b (out.push y) na (nb-1):=⟨m,a0,a1,by lia,by lia⟩
   split
   ·exact Zat ⟨rfl,I,by show na+(nb-1)<=na+nb-1;lia⟩
   ·exact Zat ⟨rfl,I,by show na+(nb-1)<=na+nb-1;lia⟩
def H5(r:Keyed->Nat)(a b:Array Keyed)(n:Nat):ForInStep T5->Prop
 |.done (some o,_)=>Good r a b o
 |.done (none,_)=>False
 |.yield (none,na,nb,out,_)=>Ih r a b out na nb/\na+nb<=n
 |.yield (some _,_)=>False
theorem M6{c:T5}(hc:Cmp prog w A s κ D r)(hk:kindOf st=κ)(o:xW D r a b)(i:Ih r a b c.2.2.2.1 c.2.1 c.2.2.1) :
  wpS (model prog w) A E s (QH a b c) (λc' st'=>(∃ g,st'=bZ st g)/\H5 r a b (c.2.1+c.2.2.1-1) c') st:=by
 obtain⟨c0,na,nb,out,mg⟩:=c;have a0:1<=na:=i.a0;have a1:na<=a.size:=i.a1;unfold QH;dsimp only;refine Zam (Za5 (Zba (I:=λk d st'=>st'=st/\∃ o2 i2 j2 ac bc,d=((none,i2,j2,o2,ac,bc):T6)/\Ih r a b o2 i2 j2/\i2+j2+k<=na+nb)
  (Q:=λd st'=>st'=st/\((∃ o2 x,d=((some o2,x):T6)/\Good r a b o2)\/∃ o2 i2 j2 ac bc,d=((none,i2,j2,o2,ac,bc):T6)/\Ih r a b o2 i2 j2/\i2+j2<=na+nb-1)) ?_ ?_ ⟨rfl,out,na,nb,0,0,rfl,i,Zag _⟩) ?_)
 ·rintro k d st' _ hk' ⟨rfl,o2,i2,j2,ac,bc,rfl,I,hn⟩;have:=I.a0;refine Za5 (M5 (c:=(none,i2,j2,o2,ac,bc)) hc hk o I) λe st' p=>?_;obtain⟨rfl,p⟩:=p
  match e,p with
  |.done (some o3,x),p=>exact⟨rfl,.inl ⟨o3,x,rfl,p⟩⟩
  |.done (none,i3,j3,o3,a3,b3),p=>exact⟨rfl,.inr ⟨o3,i3,j3,a3,b3,rfl,p.1,by have:i3+j3<=i2+j2-1:=p.2;lia⟩⟩
  |.yield (none,i3,j3,o3,a3,b3),p=>exact⟨rfl,o3,i3,j3,a3,b3,rfl,p.1,by have:i3+j3<=i2+j2-1:=p.2;lia⟩
  |.yield (some _,_),p=>exact p.elim
 ·rintro d st' ⟨rfl,o2,i2,j2,ac,bc,rfl,I,hn⟩;exact⟨rfl,.inr ⟨o2,i2,j2,ac,bc,rfl,I,by lia⟩⟩
 ·rintro d st' ⟨rfl,⟨o2,x,rfl,G⟩|⟨o2,i2,j2,ac,bc,rfl,I,hn⟩⟩
  ·exact Zat ⟨⟨gallopOf st',rfl⟩,G⟩
  ·dsimp only;refine Zam (jY ?_);refine Zam (Za5 (Zba (I:=λk e st2=>(∃ g,st2=bZ st' g)/\∃ o2 i2 j2 mg ac bc,e=((none,i2,j2,o2,mg,ac,bc):T7)/\Ih r a b o2 i2 j2/\i2+j2<=na+nb-1)
    (Q:=λe st2=>(∃ g,st2=bZ st' g)/\((∃ o2 x,e=((some o2,x):T7)/\Good r a b o2)\/∃ o2 i2 j2 mg ac bc,e=((none,i2,j2,o2,mg,ac,bc):T7)/\Ih r a b o2 i2 j2/\i2+j2<=na+nb-1)) ?_ ?_ ⟨⟨gallopOf st',rfl⟩,o2,i2,j2,_,ac,bc,rfl,I,hn⟩) ?_)
   ·rintro k e st2 _ _ ⟨⟨g,rfl⟩,o3,i3,j3,m3,a3,b3,rfl,I3,hn3⟩;refine Za5 (M4 (c:=(none,i3,j3,o3,m3,a3,b3)) hc (show kindOf (bZ st' g)=κ from hk) o I3) λe st3 p=>?_;obtain⟨⟨g2,rfl⟩,p⟩:=p
    match e,p with
    |.done (some o4,x),p=>exact⟨⟨g2,rfl⟩,.inl ⟨o4,x,rfl,p⟩⟩
    |.done (none,i4,j4,o4,m4,a4,b4),p=>exact⟨⟨g2,rfl⟩,.inr ⟨o4,i4,j4,m4,a4,b4,rfl,p.1,by have:i4+j4<=i3+j3-1:=p.2;lia⟩⟩
    |.yield (none,i4,j4,o4,m4,a4,b4),p=>exact⟨⟨g2,rfl⟩,o4,i4,j4,m4,a4,b4,rfl,p.1,by have:i4+j4<=i3+j3-1:=p.2;lia⟩
    |.yield (some _,_),p=>exact p.elim
   ·rintro e st2 ⟨G,o3,i3,j3,m3,a3,b3,rfl,I3,hn3⟩;exact⟨G,.inr ⟨o3,i3,j3,m3,a3,b3,rfl,I3,hn3⟩⟩
   ·rintro e st2 ⟨⟨g,rfl⟩,⟨o3,x,rfl,G⟩|⟨o3,i3,j3,m3,a3,b3,rfl,I3,hn3⟩⟩
    ·exact Zat ⟨⟨g,rfl⟩,G⟩
    ·dsimp only;rw[eY];refine Zam (wpS_modify ?_);exact Zat ⟨⟨_,rfl⟩,I3,hn3⟩
theorem zZ(hc:Cmp prog w A s κ D r)(hk:kindOf st=κ)(a1:1<=a.size)(b1:1<=b.size)(o:xW D r a b)(hf:∀ x,a.toList[a.size-1]?=some x->∀ y∈b.toList,r y<r x){Q:Array Keyed->SortSt->Prop}
  (h:∀ out g,Good r a b out->Q out (bZ st g)):wpS (model prog w) A E s (uL a b) Q st:=by
 rw[zX];unfold zW;refine Zam (jY ?_);obtain⟨x,ex,ex'⟩:=getL (l:=a) (i:=a.size-1) (by lia)
 refine Zam (bJ ex' ?_);have m:Mh r a.toList b.toList (#[x]:Array Keyed).toList (a.size-1) b.size:=by
  have m0:Mh r a.toList b.toList (#[]:Array Keyed).toList a.size b.size:=⟨.nil,λ_ h=>(nomatch h),by simp⟩
  exact m0.a1 o.sa a1 ex λy hy=>hf x ex y (ZaO hy)
 by_cases q:a.size-1=0
 ·rw[Zah (by simpa using q)]
  exact Zat (h _ (gallopOf st) (zY o m (by lia) (Zag _) (.inl q)))
 ·rw[Zai (by simpa using q)]
  by_cases q2:b.size=1
  ·rw[Zah (by simpa using q2)]
   exact Zat (h _ (gallopOf st) (Ft o m (by lia) (Zag _) q2))
  ·rw[Zai (by simpa using q2)]
   refine Zam (wpS_get ?_);refine Zam (Za5 (Zba (I:=λk c st'=>(∃ g,st'=bZ st g)/\∃ out na nb mg,c=((none,na,nb,out,mg):T5)/\Ih r a b out na nb/\na+nb+k+1<=a.size+b.size)
    (Q:=λc st'=>(∃ g,st'=bZ st g)/\∃ out x,c=((some out,x):T5)/\Good r a b out) ?_ ?_ ⟨⟨gallopOf st,rfl⟩,_,a.size-1,b.size,_,rfl,⟨m,by lia,by lia,by lia,Zag _⟩,by lia⟩) ?_)
   ·rintro k c st' _ hk' ⟨⟨g,rfl⟩,out,na,nb,mg,rfl,I,hn⟩;have:=I.a0;refine Za5 (M6 (c:=(none,na,nb,out,mg)) hc (show kindOf (bZ st g)=κ from hk) o I) λe st3 p=>?_;obtain⟨⟨g2,rfl⟩,p⟩:=p
    match e,p with
    |.done (some o4,x),p=>exact⟨⟨g2,rfl⟩,o4,x,rfl,p⟩
    |.done (none,_),p=>exact p.elim
    |.yield (none,i4,j4,o4,m4),p=>exact⟨⟨g2,rfl⟩,o4,i4,j4,m4,rfl,p.1,by have:i4+j4<=na+nb-1:=p.2;lia⟩
    |.yield (some _,_),p=>exact p.elim
   ·rintro c st' ⟨_,out,na,nb,mg,rfl,I,hn⟩;have:=I.a0;lia
   ·rintro c st' ⟨⟨g,rfl⟩,out,x,rfl,G⟩;exact Zat (h out g G)
end
theorem wB(i:Nat):∀ (M:List Keyed) (a:Array Keyed) (n:Nat),i+n+M.length<=a.size->((M.zipIdx n).foldl (λa (p:Keyed×Nat)=>a.setIfInBounds (i+p.2) p.1) a).toList=a.toList.take (i+n)++M++a.toList.drop (i+n+M.length)
 |[],a,n,_=>by simp
 |x::M,a,n,h=>by
  rw[ZaK] at h ⊢;rw[List.zipIdx_cons,List.foldl_cons,wB i M _ (n+1) (by rw[Array.size_setIfInBounds];lia),Array.toList_setIfInBounds]
  have e1:(a.toList.set (i+n) x).take (i+(n+1))=a.toList.take (i+n)++[x]:=by
   rw[show i+(n+1)=i+n+1 by lia,List.take_succ,List.take_set_of_le (Zag _),Za4 (by simp;lia)]
   rfl
  have e2:(a.toList.set (i+n) x).drop (i+(n+1)+M.length)=a.toList.drop (i+n+(M.length+1)):=by
   rw[List.drop_set_of_lt (by lia),show i+(n+1)+M.length=i+n+(M.length+1) by lia]
  rw[e1,e2];simp
theorem J5(M:List Keyed)(a:Array Keyed)(i:Nat)(h:i+M.length<=a.size):(M.zipIdx.foldl (λa (p:Keyed×Nat)=>a.setIfInBounds (i+p.2) p.1) a).toList=a.toList.take i++M++a.toList.drop (i+M.length):=wB i M a 0 h
section
variable{prog:Program}{w:World}{A:Around}{E:Value->Shared->Prop}{s:Shared}{κ:SortKind}{D:Keyed->Prop}{r:Keyed->Nat}{st:SortSt}
theorem M7{M:Model}{st2:SortSt}{Q:PUnit->SortSt->Prop}(h:Q ⟨⟩ st2):wpS M A E s (set st2:StateT SortSt Sem PUnit) Q st:=by
 unfold wpS;rw[StateT.run_set];exact ZaL ⟨rfl,h⟩
def bK(l:List Keyed)(i j:Nat):List Keyed:=(l.take j).drop i
theorem tH(l:List Keyed)(i j:Nat):(l.drop i).take (j-i)=bK l i j:=by unfold bK;rw[List.drop_take]
theorem QJ(l:List Keyed){i j:Nat}(h:i<=j):l=l.take i++bK l i j++l.drop j:=by
 unfold bK
 conv=>lhs;rw[<-ZaE j l,<-ZaE i (l.take j)]
 rw[Zbr,Zbi h]
theorem iu(l:List Keyed){i j k:Nat}(h:i<=j)(h2:j<=k):bK l i k=bK l i j++bK l j k:=by
 unfold bK;rw[kW (l.take k) h,Zbr,Zbi h2]
theorem uN(l:List Keyed)(i j n:Nat):(bK l i j).take n=bK l i (min (i+n) j):=by
 unfold bK;rw[List.take_drop,Zbr]
theorem uO(l:List Keyed)(i j n:Nat):(bK l i j).drop n=bK l (i+n) j:=by
 unfold bK;rw[List.drop_drop]
theorem jD(l:List Keyed){i j:Nat}(h:j<=l.length):(bK l i j).length=j-i:=by
 unfold bK;rw[List.length_drop,Zbu,Zbi h]
theorem rG(l:List Keyed){i j n:Nat}(h:i+n<j):(bK l i j)[n]?=l[i+n]?:=by
 unfold bK;rw[List.getElem?_drop,List.getElem?_take,Zah h]
theorem tL{l:List Keyed}{i j:Nat}{x:Keyed}(h:x∈bK l i j):x∈l:=ZaO (ZaY h)
def Unl(r:Keyed->Nat)(l:List Keyed):Prop:=l.Pairwise λx y=>r x≠r y
theorem Unl.parts{l:List Keyed}(u:Unl r l){i j k:Nat}(h:i<=j)(h2:j<=k):∀ x∈bK l i j,∀ y∈bK l j k,r x≠r y:=λx hx y hy=>by
 have:Unl r (bK l i k):=Zan ((ZaZ _ _).trans (ZaS _ _)) u;rw[iu l h h2] at this;exact(Zao.mp this).2.2 x hx y hy
theorem z6{i sa na sb nb p1 p2:Nat}(hc:Cmp prog w A s κ D r)(hk:kindOf st=κ)(hf:failedOf st=none)(e1:(pendingOf st)[i]?=some (sa,na,p1))(e2:(pendingOf st)[i+1]?=some (sb,nb,p2))(hs:sb=sa+na)(n1:1<=na)(n2:1<=nb)(hz:sb+nb<=(arrOf st).size)
  (dm:∀ x∈(arrOf st).toList,D x)(un:Unl r (arrOf st).toList)(s1:Srt r (bK (arrOf st).toList sa sb))(s2:Srt r (bK (arrOf st).toList sb (sb+nb))){Q:Bool->SortSt->Prop}
  (h:∀ (M:List Keyed) arr' g,arr'.toList=(arrOf st).toList.take sa++M++(arrOf st).toList.drop (sb+nb)->M.Perm (bK (arrOf st).toList sa (sb+nb))->Srt r M->Q true (SortSt.mk' κ arr' (((pendingOf st).setIfInBounds i (sa,na+nb,p1)).eraseIdxIfInBounds (i+1)) g none)) :
  wpS (model prog w) A E s (mergeAt' i) Q st:=by
 obtain⟨kd,arr,pd,gl,fl⟩:=st;have hk:kd=κ:=hk;have hf:fl=none:=hf;subst hk hf;have ll:arr.toList.length=arr.size:=by simp
 have hz:sb+nb<=arr.size:=hz;have dm:∀ x∈arr.toList,D x:=dm;have un:Unl r arr.toList:=un;have s1:Srt r (bK arr.toList sa sb):=s1;have s2:Srt r (bK arr.toList sb (sb+nb)):=s2;rw[zR];refine Zam (wpS_get ?_);dsimp only;rw[e1,e2];dsimp only;refine Zam (M7 ?_);obtain⟨y0,ey,ey'⟩:=getL (l:=arr) (i:=sb) (by omega)
 refine Zam (bJ ey' ?_);have ne12:=un.parts (i:=sa) (j:=sb) (k:=sb+nb) (by omega) (by omega)
 have my0:y0∈bK arr.toList sb (sb+nb):=ZaC (i:=0) (by rw[rG _ (by omega)];exact ey)
 have y0le:∀ z∈bK arr.toList sb (sb+nb),r y0<=r z:=λz hz'=>mJ (i:=0) s2 (by rw[rG _ (by omega)];exact ey) z (by rw[Zbe];exact hz')
 refine Zam (gJ (L:=bK arr.toList sa sb) hc rfl (by omega) (by omega) (by rw[<-tH,show sb-sa=na by omega]) (dm y0 (lU ey)) (λz hz'=>⟨dm z (tL hz'),ne12 z hz' y0 my0⟩) s1 λk hk' g1 g2=>?_)
 dsimp only;have whole:∀ g,(∀ x∈bK arr.toList sa sb,∀ y∈bK arr.toList sb (sb+nb),r x<r y)->Q true (SortSt.mk' kd arr ((pd.setIfInBounds i (sa,na+nb,p1)).eraseIdxIfInBounds (i+1)) g none):=λg hlt=>by
  refine h (bK arr.toList sa (sb+nb)) arr g (QJ _ (by omega)) (List.Perm.refl _) ?_
  rw[iu _ (show sa<=sb by omega) (show sb<=sb+nb by omega)]
  exact Zao.mpr ⟨s1,s2,hlt⟩
 by_cases q1:na-k=0
 ·rw[Zah (by simpa using q1)]
  refine Zat (whole _ λx hx y hy=>?_);have:(bK arr.toList sa sb).take k=bK arr.toList sa sb:=ZaX (by rw[jD _ (by omega)];omega)
  rw[this] at g1;exact Zap (g1 x hx) (y0le y hy)
 ·rw[Zai (by simpa using q1)]
  have es:sa+k+(na-k)-1=sb-1:=by omega
  rw[es];obtain⟨x1,ex,ex'⟩:=getL (l:=arr) (i:=sb-1) (by omega)
  refine Zam (bJ ex' ?_);have exA:(bK arr.toList sa sb)[na-1]?=some x1:=by rw[rG _ (by omega),show sa+(na-1)=sb-1 by omega];exact ex
  have mx1:x1∈bK arr.toList sa sb:=ZaC exA;have x1le:∀ z∈bK arr.toList sa sb,r z<=r x1:=λz hz'=>mK (n:=na) s1 n1 exA z (by rw[ZaX (by rw[jD _ (by omega)];omega)];exact hz')
  refine Zam (gJ (L:=bK arr.toList sb (sb+nb)) hc rfl (by omega) (by omega) (by rw[<-tH,ZbC]) (dm x1 (lU ex)) (λz hz'=>⟨dm z (tL hz'),λe=>ne12 x1 mx1 z hz' e.symm⟩) s2 λm hm f1 f2=>?_)
  dsimp only;by_cases q2:m=0
  ·rw[Zah (by simpa using q2)]
   refine Zat (whole _ λx hx y hy=>?_);rw[q2,Zbe] at f2;exact Nat.lt_of_le_of_lt (x1le x hx) (f2 y hy)
  ·rw[Zai (by simpa using q2)]
   rw[uO] at g2 f2;rw[uN,Zbi (by omega)] at g1 f1
   have tx:(arr.extract (sa+k) sb).toList=bK arr.toList (sa+k) sb:=by rw[ext_toList arr _ _ (by omega) (by omega),tH]
   have ty:(arr.extract sb (sb+m)).toList=bK arr.toList sb (sb+m):=by rw[ext_toList arr _ _ (by omega) (by omega),tH]
   have zx:(arr.extract (sa+k) sb).size=na-k:=by rw[<-Za6,tx,jD _ (by omega)];omega
   have zy:(arr.extract sb (sb+m)).size=m:=by rw[<-Za6,ty,jD _ (by omega)];omega
   have sx:Srt r (bK arr.toList (sa+k) sb):=by
    rw[<-uO];exact Zan (ZaZ _ _) s1
   have sy:Srt r (bK arr.toList sb (sb+m)):=by
    have:bK arr.toList sb (sb+m)=(bK arr.toList sb (sb+nb)).take m:=by rw[uN,Zbi (by omega)]
    rw[this];exact Zan (ZaS _ _) s2
   have inx:∀ z∈bK arr.toList (sa+k) sb,z∈bK arr.toList sa sb:=λz hz'=>by rw[<-uO] at hz';exact ZaY hz'
   have iny:∀ z∈bK arr.toList sb (sb+m),z∈bK arr.toList sb (sb+nb):=λz hz'=>by
    have:bK arr.toList sb (sb+m)=(bK arr.toList sb (sb+nb)).take m:=by rw[uN,Zbi (by omega)]
    rw[this] at hz';exact ZaO hz'
   have fy:∀ y,(arr.extract sb (sb+m)).toList[0]?=some y->∀ x∈(arr.extract (sa+k) sb).toList,r y<r x:=λy hy x hx=>by
    rw[ty,rG _ (by omega),Nat.add_zero,ey] at hy
    cases hy;rw[tx] at hx;exact g2 x hx
   have lx:∀ x,(arr.extract (sa+k) sb).toList[(arr.extract (sa+k) sb).size-1]?=some x->∀ y∈(arr.extract sb (sb+m)).toList,r y<r x:=λx hx y hy=>by
    rw[tx,zx,rG _ (by omega),show sa+k+(na-k-1)=sb-1 by omega,ex] at hx
    cases hx;rw[ty] at hy;exact f1 y hy
   have fin:∀ (out:Array Keyed) (g:Nat),Good r (arr.extract (sa+k) sb) (arr.extract sb (sb+m)) out->wpS (model prog w) A E s (do
     modify λs=>setArr s (out.toList.zipIdx.foldl (λa (p,j)=>a.setIfInBounds (sa+k+j) p) (arrOf s))
     return (failedOf (<-get)).isNone) Q (SortSt.mk' kd arr ((pd.setIfInBounds i (sa,na+nb,p1)).eraseIdxIfInBounds (i+1)) g none):=λout g G=>by
    refine Zam (wpS_modify (Zam (wpS_get (Zat ?_))));obtain⟨G1,G2⟩:=G;rw[tx,ty] at G2;have ol:out.toList.length=na-k+m:=by rw[G2.length_eq,List.length_append,jD _ (by omega),jD _ (by omega)];omega
    have fs:=J5 out.toList arr (sa+k) (by rw[ol];omega)
    rw[ol,show sa+k+(na-k+m)=sb+m by omega] at fs
    refine h (bK arr.toList sa (sa+k)++out.toList++bK arr.toList (sb+m) (sb+nb)) _ g ?_ ?_ ?_
    ·refine Eq.trans fs ?_;have t1:arr.toList.take (sa+k)=arr.toList.take sa++bK arr.toList sa (sa+k):=by
      have:=QJ (arr.toList.take (sa+k)) (i:=sa) (j:=sa+k) (by omega)
      rw[Zbr,Zbi (by omega),show(arr.toList.take (sa+k)).drop (sa+k)=[] from Zbg (by simp;omega),ZaM] at this
      unfold bK at this ⊢;rw[Zbr,Nat.min_self] at this;exact this
     have t2:arr.toList.drop (sb+m)=bK arr.toList (sb+m) (sb+nb)++arr.toList.drop (sb+nb):=kW _ (by omega)
     rw[t1,t2];simp only[Zar]
    ·rw[iu arr.toList (show sa<=sa+k by omega) (show sa+k<=sb+nb by omega),iu arr.toList (show sa+k<=sb by omega) (show sb<=sb+nb by omega),iu arr.toList (show sb<=sb+m by omega) (show sb+m<=sb+nb by omega)]
     simp only[Zar];refine Zbc _ ?_;rw[<-Zar];exact ZbH _ G2
    ·have mo:∀ z∈out.toList,z∈bK arr.toList (sa+k) sb\/z∈bK arr.toList sb (sb+m):=λz hz'=>Zab.mp (G2.mem_iff.mp hz');have sA:Srt r (bK arr.toList sa (sa+k)++bK arr.toList (sa+k) sb):=by rw[<-iu _ (by omega) (by omega)];exact s1
     have sB:Srt r (bK arr.toList sb (sb+m)++bK arr.toList (sb+m) (sb+nb)):=by rw[<-iu _ (by omega) (by omega)];exact s2
     have pA:=Zao.mp sA;have pB:=Zao.mp sB;refine Zao.mpr ⟨Zao.mpr ⟨pA.1,G1,λx hx z hz'=>?_⟩,pB.2.1,λx hx y hy=>?_⟩
     ·rcases mo z hz' with q|q
      ·exact pA.2.2 x hx z q
      ·exact Zap (g1 x hx) (y0le z (iny z q))
     ·rcases Zab.mp hx with q|q
      ·have hy':y∈bK arr.toList sb (sb+nb):=by rw[iu arr.toList (show sb<=sb+m by omega) (show sb+m<=sb+nb by omega)];exact Zab.mpr (.inr hy)
       exact Zap (g1 x q) (y0le y hy')
      ·rcases mo x q with q|q
       ·exact Nat.lt_of_le_of_lt (x1le x (inx x q)) (f2 y hy)
       ·exact pB.2.2 x q y hy
   have nexy:∀ x∈(arr.extract (sa+k) sb).toList,∀ y∈(arr.extract sb (sb+m)).toList,r x≠r y:=λx hx y hy=>by
    rw[tx] at hx;rw[ty] at hy;exact ne12 x (inx x hx) y (iny y hy)
   have dax:∀ x∈(arr.extract (sa+k) sb).toList,D x:=λx hx=>by rw[tx] at hx;exact dm x (tL hx)
   have day:∀ x∈(arr.extract sb (sb+m)).toList,D x:=λx hx=>by rw[ty] at hx;exact dm x (tL hx)
   by_cases q3:na-k<=m
   ·rw[Zah q3];refine Zam (zV hc rfl (by omega) (by omega) ⟨dax,day,by rw[tx];exact sx,by rw[ty];exact sy,nexy,lx⟩ fy λout g G=>?_)
    exact fin out g G
   ·rw[Zai q3];refine Zam (zZ hc rfl (by omega) (by omega) ⟨dax,day,by rw[tx];exact sx,by rw[ty];exact sy,nexy,fy⟩ lx λout g G=>?_)
    exact fin out g G
end
def Rk(r:Keyed->Nat)(a:Array Keyed)(k:Nat):Nat:=match a[k]? with
 |some x=>r x
 |none=>0
def gA(r:Keyed->Nat)(a:Array Keyed)(i j:Nat):Prop:=∀ p q,i<=p->p<q->q<j->Rk r a p<Rk r a q
def Ss(r:Keyed->Nat)(a:Array Keyed)(i j:Nat):Prop:=∀ p q,i<=p->p<q->q<j->Rk r a q<Rk r a p
theorem wC{r:Keyed->Nat}{a b:Array Keyed}{i j:Nat}(h:a[i]?=b[j]?):Rk r a i=Rk r b j:=by unfold Rk;rw[h]
theorem Fx{r:Keyed->Nat}{a:Array Keyed}{k:Nat}{x:Keyed}(h:a[k]?=some x):Rk r a k=r x:=by unfold Rk;rw[h]
theorem tM{r:Keyed->Nat}{a:Array Keyed}{i j:Nat}(h:j<=a.size):Srt r (bK a.toList i j)↔gA r a i j:=by
 have ll:a.toList.length=a.size:=by simp
 have cl:=jD a.toList (i:=i) (j:=j) (by lia)
 have at_:∀ p (hp:p<(bK a.toList i j).length),r ((bK a.toList i j)[p])=Rk r a (i+p):=λp hp=>by
  have e:(bK a.toList i j)[p]?=a[i+p]?:=by rw[rG _ (by lia),ZaN]
  rw[Zaa hp] at e;exact(Fx e.symm).symm
 constructor
 ·intro h1 p q h2 h3 h4;have:=Zbz.mp h1 (p-i) (q-i) (by lia) (by lia) (by lia)
  rw[at_ _ (by lia),at_ _ (by lia),show i+(p-i)=p by lia,show i+(q-i)=q by lia] at this
  exact this
 ·intro h1;refine Zbz.mpr λp q hp hq hpq=>?_;rw[at_ p hp,at_ q hq];exact h1 (i+p) (i+q) (by lia) (by lia) (by lia)
section
variable{prog:Program}{w:World}{A:Around}{E:Value->Shared->Prop}{s:Shared}{κ:SortKind}{D:Keyed->Prop}{r:Keyed->Nat}{st:SortSt}
structure Bs(D:Keyed->Prop)(r:Keyed->Nat)(a:Array Keyed):Prop where
 dm:∀ (k:Nat) x,a[k]?=some x->D x
 un:∀ p q,p<q->q<a.size->Rk r a p≠Rk r a q
theorem Bs.of{a:Array Keyed}(d:∀ x∈a.toList,D x)(u:Unl r a.toList):Bs D r a:=by
 refine⟨λk x h=>d x (ZaC (by rw[ZaN];exact h)),λp q h1 h2=>?_⟩
 have:=Zbz.mp u p q (by simp;lia) (by simp;lia) h1
 have e:∀ k (hk:k<a.size),Rk r a k=r (a.toList[k]'(by simpa using hk)):=λk hk=>Fx (by rw[Za8 hk,Array.getElem_toList])
 rw[e p (by lia),e q h2]
 exact this
theorem Unl.perm{l m:List Keyed}(u:Unl r l)(p:m.Perm l):Unl r m:=(p.pairwise_iff (λh=>Zbp h)).mpr u
theorem Bs.perm{a b:Array Keyed}(d:∀ x∈a.toList,D x)(u:Unl r a.toList)(p:b.Perm a):Bs D r b:=
 have p:=Zbf.mp p
 Bs.of (λx hx=>d x (p.mem_iff.mp hx)) (u.perm p)
theorem jh(hc:Cmp prog w A s κ D r)(hk:kindOf st=κ)(b:Bs D r (arrOf st)){i j:Nat}(hi:i<(arrOf st).size)(hj:j<(arrOf st).size){Q:Option Bool->SortSt->Prop}(h:Q (some (decide (Rk r (arrOf st) i<Rk r (arrOf st) j))) st):wpS (model prog w) A E s (ltAt' i j) Q st:=by
 obtain⟨x,ex⟩:∃ x,(arrOf st)[i]?=some x:=⟨_,Za8 hi⟩;obtain⟨y,ey⟩:∃ y,(arrOf st)[j]?=some y:=⟨_,Za8 hj⟩;rw[ltAt'_eq];refine Zam (wpS_get ?_);show wpS _ _ _ _ (do let x <-elem' (arrOf st) i;let y <-elem' (arrOf st) j;lt' x y) Q st
 refine Zam (bJ ex (Zam (bJ ey (uM hc hk (b.dm i x ex) (b.dm j y ey) ?_))));rw[Fx ex,Fx ey] at h;exact h
theorem gA.snoc{a:Array Keyed}{i j:Nat}(h:gA r a i j)(hij:i<j)(l:Rk r a (j-1)<Rk r a j):gA r a i (j+1):=λp q h1 h2 h3=>by
 by_cases e:q=j
 ·subst e;by_cases e2:p=q-1
  ·rw[e2];exact l
  ·exact ZbN (h p (q-1) h1 (by lia) (by lia)) l
 ·exact h p q h1 h2 (by lia)
theorem wpS_countRun{lo nrem:Nat}(hc:Cmp prog w A s κ D r)(hk:kindOf st=κ)(dm:∀ x∈(arrOf st).toList,D x)(un:Unl r (arrOf st).toList)(hn:1<=nrem)(hz:lo+nrem=(arrOf st).size){Q:Option Nat->SortSt->Prop}
  (h:∀ n arr',1<=n->n<=nrem->arr'.Perm (arrOf st)->(∀ k,k<lo->arr'[k]?=(arrOf st)[k]?)->gA r arr' lo (lo+n)->Q (some n) (setArr st arr')):wpS (model prog w) A E s (countRun' lo nrem) Q st:=by
 have b:=Bs.of dm un;rw[countRun'_eq];refine Zam (Za5 (Zba (I:=λk c st'=>st'=st/\c=(none,k)/\gA r (arrOf st) lo (lo+k))
  (Q:=λc st'=>st'=st/\∃ n,c=(none,n)/\1<=n/\n<=nrem/\gA r (arrOf st) lo (lo+n)/\(n<nrem->Rk r (arrOf st) (lo+n)<Rk r (arrOf st) (lo+n-1))) ?_ ?_ ⟨rfl,rfl,λp q h1 h2 h3=>by lia⟩) ?_)
 ·rintro k c st' h1 h2 ⟨rfl,rfl,S⟩;dsimp only;refine Zam (jh hc hk b (by lia) (by lia) ?_)
  dsimp only;by_cases q:Rk r (arrOf st') (lo+k)<Rk r (arrOf st') (lo+k-1)
  ·rw[Zaz q,Zah rfl];exact Zat ⟨rfl,k,rfl,h1,by lia,S,λ_=>q⟩
  ·rw[ZaD q,Zai (by decide)]
   refine Zat ⟨rfl,rfl,?_⟩;have:=b.un (lo+k-1) (lo+k) (by lia) (by lia)
   exact S.snoc (by lia) (by lia)
 ·rintro c st' ⟨rfl,rfl,S⟩;exact⟨rfl,_,rfl,by lia,by lia,S,λz=>by lia⟩
 ·rintro c st' ⟨rfl,n,rfl,h1,h2,S,hbr⟩;dsimp only;by_cases q1:n=nrem
  ·rw[Zah (by simpa using q1)]
   exact Zat (h n (arrOf st') h1 h2 (Array.Perm.refl _) (λ_ _=>rfl) S)
  ·rw[Zai (by simpa using q1)]
   by_cases q2:n>1
   ·rw[Zah q2];refine Zam (jh hc hk b (by lia) (by lia) ?_)
    dsimp only;rw[Zaz (S lo (lo+n-1) (Zag _) (by lia) (by lia)),Zah rfl]
    exact Zat (h n (arrOf st') h1 h2 (Array.Perm.refl _) (λ_ _=>rfl) S)
   ·rw[Zai q2];have n1:n=1:=by lia
    subst n1;have hbr:=hbr (by lia)
    refine Zam (jY ?_);refine Zam (Za5 (Zba (I:=λk c st2=>st2=st'/\c=(none,k,0)/\Ss r (arrOf st') lo (lo+k))
     (Q:=λc st2=>st2=st'/\∃ n,c=(none,n,0)/\2<=n/\n<=nrem/\Ss r (arrOf st') lo (lo+n)) ?_ ?_ ⟨rfl,rfl,λp q h1 h2 h3=>by
      have e1:p=lo+1-1:=by lia
      have e2:q=lo+1:=by lia
      rw[e1,e2];exact hbr⟩) ?_)
    ·rintro k c st2 g1 g2 ⟨rfl,rfl,S2⟩;dsimp only;refine Zam (jh hc hk b (by lia) (by lia) ?_)
     dsimp only;by_cases q:Rk r (arrOf st2) (lo+k)<Rk r (arrOf st2) (lo+k-1)
     ·rw[Zaz q,Zah rfl,Zai (by lia)]
      refine Zat ⟨rfl,rfl,λp q' h1 h2 h3=>?_⟩;by_cases e:q'=lo+k
      ·subst e;by_cases e2:p=lo+k-1
       ·rw[e2];exact q
       ·exact ZbN q (S2 p (lo+k-1) h1 (by lia) (by lia))
      ·exact S2 p q' h1 h2 (by lia)
     ·rw[ZaD q,Zai (by decide)]
      refine Zam (jh hc hk b (by lia) (by lia) ?_)
      dsimp only;have:=b.un (lo+k-1) (lo+k) (by lia) (by lia)
      rw[Zaz (show Rk r (arrOf st2) (lo+k-1)<Rk r (arrOf st2) (lo+k) by lia),Zah rfl]
      exact Zat ⟨rfl,k,rfl,by lia,by lia,S2⟩
    ·rintro c st2 ⟨rfl,rfl,S2⟩;exact⟨rfl,_,rfl,by lia,by lia,S2⟩
    ·rintro c st2 ⟨rfl,n,rfl,g1,g2,S2⟩;dsimp only;rw[Zai (by lia),reverseSlice'_eq]
     refine Zam (wpS_modify ?_);have mz:=mirror_size (arrOf st2) lo (lo+n) ((lo+n-lo)/2);have mp:=mirror_perm (arrOf st2) lo (lo+n) ((lo+n-lo)/2);have mg:=getElem?_mirror_all (xs:=arrOf st2) (i:=lo) (j:=lo+n) (by lia)
     generalize mirror (arrOf st2) lo (lo+n) ((lo+n-lo)/2)=a2 at mz mp mg
     have b2:Bs D r a2:=Bs.perm dm un mp;have pre:∀ k,k<lo->a2[k]?=(arrOf st2)[k]?:=λk hk2=>by rw[mg,Zai (by lia)]
     have S3:gA r a2 lo (lo+n):=λp q h1 h2 h3=>by
      have rp:∀ p,lo<=p->p<lo+n->Rk r a2 p=Rk r (arrOf st2) (lo+(lo+n)-1-p):=λp g3 g4=>wC (by rw[mg,Zah ⟨g3,g4⟩])
      rw[rp p h1 (by lia),rp q (by lia) h3]
      exact S2 _ _ (by lia) (by lia) (by lia)
     refine Zam (Za5 (Zba (I:=λk c st3=>st3=setArr st2 a2/\c=(none,k)/\gA r a2 lo (lo+k))
      (Q:=λc st3=>st3=setArr st2 a2/\∃ m,c=(none,m)/\n<=m/\m<=nrem/\gA r a2 lo (lo+m)) ?_ ?_ ⟨rfl,rfl,S3⟩) ?_)
     ·rintro k c st3 f1 f2 ⟨rfl,rfl,S⟩;dsimp only;refine Zam (jh (st:=setArr st2 a2) hc hk b2 (by show _<a2.size;lia) (by show _<a2.size;lia) ?_)
      dsimp only;by_cases q:Rk r a2 (lo+k)<Rk r a2 (lo+k-1)
      ·rw[show arrOf (setArr st2 a2)=a2 from rfl,Zaz q,Zah rfl];exact Zat ⟨rfl,k,rfl,f1,by lia,S⟩
      ·rw[show arrOf (setArr st2 a2)=a2 from rfl,ZaD q,Zai (by decide)]
       refine Zat ⟨rfl,rfl,?_⟩;have:=b2.un (lo+k-1) (lo+k) (by lia) (by lia)
       exact S.snoc (by lia) (by lia)
     ·rintro c st3 ⟨rfl,rfl,S⟩;exact⟨rfl,_,rfl,by lia,by lia,S⟩
     ·rintro c st3 ⟨rfl,m,rfl,f1,f2,S⟩;exact Zat (h m a2 (by lia) f2 mp pre S)
theorem wpS_binarySort{lo n ok:Nat}(hc:Cmp prog w A s κ D r)(hk:kindOf st=κ)(dm:∀ x∈(arrOf st).toList,D x)(un:Unl r (arrOf st).toList)(h1:1<=ok)(h2:ok<=n)(hz:lo+n<=(arrOf st).size)(S:gA r (arrOf st) lo (lo+ok)){Q:Bool->SortSt->Prop}
  (h:∀ arr',arr'.Perm (arrOf st)->(∀ k,k<lo->arr'[k]?=(arrOf st)[k]?)->gA r arr' lo (lo+n)->Q true (setArr st arr')):wpS (model prog w) A E s (binarySort' lo n ok) Q st:=by
 rw[binarySort'_eq];refine Zam (Za5 (Zba (I:=λk c st'=>c=(none,())/\∃ arr',st'=setArr st arr'/\arr'.Perm (arrOf st)/\(∀ k,k<lo->arr'[k]?=(arrOf st)[k]?)/\gA r arr' lo (lo+k))
  (Q:=λc st'=>c=(none,())/\∃ arr',st'=setArr st arr'/\arr'.Perm (arrOf st)/\(∀ k,k<lo->arr'[k]?=(arrOf st)[k]?)/\gA r arr' lo (lo+n)) ?_ ?_ ⟨rfl,arrOf st,rfl,Array.Perm.refl _,λ_ _=>rfl,by rw[Nat.max_eq_left h1];exact S⟩) ?_)
 ·rintro k c st' g1 g2 ⟨rfl,a2,rfl,p2,pre,S2⟩;have z2:a2.size=(arrOf st).size:=p2.size_eq;have b2:Bs D r a2:=Bs.perm dm un p2;have kl:lo+k<a2.size:=by omega
  refine Zam (Za5 (Zba (I:=λt c st2=>st2=setArr st a2/\∃ l e,c=((none:Option Bool),l,e)/\l<=e/\e<=k/\(∀ i,i<l->Rk r a2 (lo+i)<Rk r a2 (lo+k))/\(∀ i,e<=i->i<k->Rk r a2 (lo+k)<Rk r a2 (lo+i))/\e-l+t<=k)
   (Q:=λc st2=>st2=setArr st a2/\∃ l,c=((none:Option Bool),l,l)/\l<=k/\(∀ i,i<l->Rk r a2 (lo+i)<Rk r a2 (lo+k))/\(∀ i,l<=i->i<k->Rk r a2 (lo+k)<Rk r a2 (lo+i))) ?_ ?_ ⟨rfl,0,k,rfl,by omega,Zag _,λi hi=>by omega,λi h3 h4=>by omega,by omega⟩) ?_)
  ·rintro t c st2 _ ht ⟨rfl,l,e,rfl,f1,f2,f3,f4,f5⟩;dsimp only;by_cases q:l>=e
   ·rw[Zah q];have:l=e:=by omega
    subst this;exact Zat ⟨rfl,l,rfl,f2,f3,f4⟩
   ·rw[Zai q];refine Zam (jh (st:=setArr st a2) hc hk b2 (by show _<a2.size;omega) (by show _<a2.size;omega) ?_)
    dsimp only;rw[show arrOf (setArr st a2)=a2 from rfl];by_cases q2:Rk r a2 (lo+k)<Rk r a2 (lo+(l+e)/2)
    ·rw[Zaz q2,Zah rfl];refine Zat ⟨rfl,l,(l+e)/2,rfl,by omega,by omega,f3,λi h3 h4=>?_,by omega⟩
     by_cases q3:i=(l+e)/2
     ·rw[q3];exact q2
     ·exact ZbN q2 (S2 _ _ (by omega) (by omega) (by omega))
    ·rw[ZaD q2,Zai (by decide)]
     have ne:=b2.un (lo+(l+e)/2) (lo+k) (by omega) kl
     refine Zat ⟨rfl,(l+e)/2+1,e,rfl,by omega,f2,λi hi=>?_,f4,by omega⟩
     by_cases q3:i=(l+e)/2
     ·rw[q3];omega
     ·exact ZbN (S2 (lo+i) (lo+(l+e)/2) (by omega) (by omega) (by omega)) (by omega)
  ·rintro c st2 ⟨rfl,l,e,rfl,f1,f2,f3,f4,f5⟩;have:l=e:=by omega
   subst this;exact⟨rfl,l,rfl,f2,f3,f4⟩
  ·rintro c st2 ⟨rfl,l,rfl,f1,f2,f3⟩;dsimp only;rw[moveDown'_eq];refine Zam (wpS_modify (Zat ?_));have bz:=bubble_perm a2 (lo+k) (lo+k-(lo+l));have bg:=getElem?_bubble (xs:=a2) (src:=lo+k) kl (lo+k-(lo+l)) (by omega)
   refine⟨rfl,bubble a2 (lo+k) (lo+k-(lo+l)),rfl,bz.trans p2,?_,?_⟩
   ·intro i hi;rw[bg,Zai (by omega),Zai (by omega)]
    exact pre i hi
   ·generalize bubble a2 (lo+k) (lo+k-(lo+l))=a3 at bg
    rw[show lo+k-(lo+k-(lo+l))=lo+l by omega] at bg
    have rk3:∀ i,Rk r a3 i=if i=lo+l then Rk r a2 (lo+k) else if lo+l<i/\i<=lo+k then Rk r a2 (i-1) else Rk r a2 i:=λi=>by
     have:=bg i;split at this
     ·rename_i e;rw[Zah e];exact wC this
     ·rename_i e;rw[Zai e];split at this
      ·rename_i e2;rw[Zah e2];exact wC this
      ·rename_i e2;rw[Zai e2];exact wC this
    intro p q h3 h4 h5;rw[rk3 p,rk3 q];by_cases p1:p=lo+l
    ·rw[Zah p1,Zai (by omega),Zah (by omega)]
     have:=f3 (q-1-lo) (by omega) (by omega)
     rw[show lo+(q-1-lo)=q-1 by omega] at this
     exact this
    ·rw[Zai p1];by_cases p2':lo+l<p
     ·rw[Zah ⟨p2',by omega⟩,Zai (by omega),Zah (by omega)]
      exact S2 _ _ (by omega) (by omega) (by omega)
     ·rw[Zai (by omega)]
      by_cases q1:q=lo+l
      ·rw[Zah q1];have:=f2 (p-lo) (by omega)
       rw[show lo+(p-lo)=p by omega] at this
       exact this
      ·rw[Zai q1];by_cases q2:lo+l<q
       ·rw[Zah ⟨q2,by omega⟩]
        exact S2 _ _ h3 (by omega) (by omega)
       ·rw[Zai (by omega)]
        exact S2 _ _ h3 h4 (by omega)
 ·rintro c st' ⟨rfl,a2,rfl,p2,pre,S2⟩;refine⟨rfl,a2,rfl,p2,pre,?_⟩;rw[show max (max ok 1) n=n by omega] at S2
  exact S2
 ·rintro c st' ⟨rfl,a2,rfl,p2,pre,S2⟩;exact Zat (h a2 p2 pre S2)
end
def qm(pw:Nat):StateT SortSt Sem (ForInStep (Option Unit×Unit)):=do
 let s <-get
 match(if(pendingOf s).size>1 then(pendingOf s)[(pendingOf s).size-2]? else none) with
 |some x=>if x.2.2<=pw then pure (.done (none,())) else do
  let ok <-mergeAt' ((pendingOf s).size-2)
  if(!ok)=true then pure (.done (some (),())) else pure (.yield (none,()))
 |none=>pure (.done (none,()))
def nR(lo n:Nat):StateT SortSt Sem (ForInStep (Option Unit×Nat)):=do
 modify λs=>setPending s ((pendingOf s).push (lo,n,0))
 pure (.yield (none,lo+n))
def lay(size lo n:Nat):StateT SortSt Sem (ForInStep (Option Unit×Nat)):=do
 let s <-get
 match(pendingOf s).back? with
 |some x=>do
  let c <-forIn [0:size] ((none:Option Unit),()) λ_ _=>qm (power' size (2*x.1+x.2.1) (2*x.1+x.2.1+x.2.1+n) size)
  match c.1 with
  |some r=>pure (.done (some r,lo))
  |none=>do
   modify λs=>setPending s ((pendingOf s).modify ((pendingOf s).size-1) λy=>(y.1,y.2.1,power' size (2*x.1+x.2.1) (2*x.1+x.2.1+x.2.1+n) size))
   nR lo n
 |none=>nR lo n
def J6(s:SortSt):Nat:=if Option.any (λx=>decide (x<(pendingOf s)[(pendingOf s).size-2+1]?.elim 0 λx=>x.2.1)) (if(pendingOf s).size-2>0 then Option.map (λx=>x.2.1) (pendingOf s)[(pendingOf s).size-2-1]? else none)=true then(pendingOf s).size-2-1 else(pendingOf s).size-2
def Fy:StateT SortSt Sem (ForInStep (Option Unit×Unit)):=do
 let s <-get
 if(pendingOf s).size<=1 then pure (.done (none,())) else do
  let ok <-mergeAt' (J6 s)
  if(!ok)=true then pure (.done (some (),())) else pure (.yield (none,()))
def tO(z:Nat)(c:Option Unit×Nat):StateT SortSt Sem (ForInStep (Option Unit×Nat)):=if c.2>=z then pure (.done (none,c.2)) else(do
 let x <-countRun' c.2 (z-c.2)
 match x with
 |some found=>if found<minRun' z z 0 then(do
   rule "list.sort.binary-insertion"
   let ok <-binarySort' c.2 (min (z-c.2) (minRun' z z 0)) found
   if(!ok)=true then pure (.done (some (),c.2)) else lay z c.2 (min (z-c.2) (minRun' z z 0))) else lay z c.2 found
 |none=>pure (.done (some (),c.2)))
def rH:StateT SortSt Sem Unit:=do
 let s <-get
 let c <-forIn [0:(arrOf s).size] ((none:Option Unit),0) λ_ c=>tO (arrOf s).size c
 match c.1 with
 |some r=>pure r
 |none=>do
  let d <-forIn [0:(arrOf s).size] ((none:Option Unit),()) λ_ _=>Fy
  match d.1 with
  |some r=>pure r
  |none=>pure ()
theorem xX:sortRuns'=rH:=by
 rw[sortRuns'_eq];unfold rH;dsimp only;congr 1;funext s
 congr 1
 ·congr 1
  funext _ c
  obtain⟨c0,lo⟩:=c;unfold tO;dsimp only;congr 1
  congr 1;funext x
  cases x with
  |none=>rfl
  |some found=>
   dsimp only;congr 1
   ·congr 1;funext _
    congr 1;funext ok
    congr 1
    unfold lay nR;congr 1;funext s2
    cases (pendingOf s2).back? with
    |none=>rfl
    |some x=>
     obtain⟨s1,n1,p⟩:=x;dsimp only;congr 1
     ·congr 1
      funext _ d
      unfold qm;congr 1;funext s3
      cases (if(pendingOf s3).size>1 then(pendingOf s3)[(pendingOf s3).size-2]? else none) with
      |none=>rfl
      |some y=>obtain⟨y1,y2,y3⟩:=y;rfl
     ·funext c
      obtain⟨c0,_⟩:=c;cases c0<;>rfl
   ·unfold lay nR;congr 1;funext s2
    cases (pendingOf s2).back? with
    |none=>rfl
    |some x=>
     obtain⟨s1,n1,p⟩:=x;dsimp only;congr 1
     ·congr 1
      funext _ d
      unfold qm;congr 1;funext s3
      cases (if(pendingOf s3).size>1 then(pendingOf s3)[(pendingOf s3).size-2]? else none) with
      |none=>rfl
      |some y=>obtain⟨y1,y2,y3⟩:=y;rfl
     ·funext c
      obtain⟨c0,_⟩:=c;cases c0<;>rfl
 ·funext c
  obtain⟨c0,lo⟩:=c;cases c0 with
  |some r=>rfl
  |none=>
   dsimp only;congr 1
   funext d
   obtain⟨d0,_⟩:=d;cases d0<;>rfl
noncomputable abbrev Pd:=Nat×Nat×Nat
def Rn(r:Keyed->Nat)(a:Array Keyed):Nat->List Pd->Nat->Prop
 |s,[],e=>s=e
 |s,x::l,e=>x.1=s/\1<=x.2.1/\gA r a s (s+x.2.1)/\Rn r a (s+x.2.1) l e
section
variable{r:Keyed->Nat}{a b:Array Keyed}
theorem Rn.le:∀ {l:List Pd}{s e:Nat},Rn r a s l e->s+l.length<=e
 |[],s,e,h=>by cases h;simp
 |x::l,s,e,h=>by
  have:=h.2.2.2.le;have:=h.2.1;simp only[ZaK];omega
theorem Rn.app:∀ {l m:List Pd}{s e:Nat},Rn r a s (l++m) e↔∃ k,Rn r a s l k/\Rn r a k m e
 |[],m,s,e=>⟨λh=>⟨s,rfl,h⟩,λ⟨k,h1,h2⟩=>by cases h1;exact h2⟩
 |x::l,m,s,e=>by
  constructor
  ·rintro⟨h1,h2,h3,h4⟩;obtain⟨k,g1,g2⟩:=Rn.app.mp h4;exact⟨k,⟨h1,h2,h3,g1⟩,g2⟩
  ·rintro⟨k,⟨h1,h2,h3,h4⟩,g2⟩;exact⟨h1,h2,h3,Rn.app.mpr ⟨k,h4,g2⟩⟩
theorem gA.congr{i j:Nat}(h:∀ k,i<=k->k<j->b[k]?=a[k]?)(S:gA r a i j):gA r b i j:=λp q h1 h2 h3=>by
 rw[wC (h p h1 (by lia)),wC (h q (by lia) h3)]
 exact S p q h1 h2 h3
theorem Rn.congr:∀ {l:List Pd}{s e:Nat},(∀ k,s<=k->k<e->b[k]?=a[k]?)->Rn r a s l e->Rn r b s l e
 |[],_,_,_,h=>h
 |x::l,s,e,hk,⟨h1,h2,h3,h4⟩=>by
  have:=h4.le;exact⟨h1,h2,h3.congr λk g1 g2=>hk k g1 (by lia),Rn.congr (λk g1 g2=>hk k (by lia) g2) h4⟩
theorem J7{l:List Pd}{i:Nat}{x y:Pd}(e1:l[i]?=some x)(e2:l[i+1]?=some y):l=l.take i++x::y::l.drop (i+2):=by
 have h1:=(Zay.mp e1).1;have h2:=(Zay.mp e2).1
 conv=>lhs;rw[<-ZaE i l]
 congr 1
 rw[ZaR h1,ZaR h2];rw[Zaa h1] at e1;rw[Zaa h2] at e2;rw[Zad e1,Zad e2]
theorem Hs{l:List Pd}{i:Nat}{x y z:Pd}(e1:l[i]?=some x)(e2:l[i+1]?=some y):(l.set i z).eraseIdx (i+1)=l.take i++z::l.drop (i+2):=by
 have h2:=(Zay.mp e2).1;have hl:(l.take i).length=i:=by simp;lia
 conv=>lhs;rw[J7 e1 e2]
 rw[List.set_append_right _ _ (by lia),hl,ZbO,List.set_cons_zero,List.eraseIdx_append_of_length_le (by lia),hl,ZbC]
 rfl
end
section
variable{prog:Program}{w:World}{A:Around}{E:Value->Shared->Prop}{s:Shared}{κ:SortKind}{D:Keyed->Prop}{r:Keyed->Nat}{st:SortSt}{a0:Array Keyed}
structure Rs(κ:SortKind)(r:Keyed->Nat)(a0:Array Keyed)(lo:Nat)(st:SortSt):Prop where
 kd:kindOf st=κ
 fl:failedOf st=none
 pm:(arrOf st).Perm a0
 rn:Rn r (arrOf st) 0 (pendingOf st).toList lo
 le:lo<=a0.size
theorem J8{i lo:Nat}(hc:Cmp prog w A s κ D r)(dm:∀ x∈a0.toList,D x)(un:Unl r a0.toList)(R:Rs κ r a0 lo st)(hi:i+1<(pendingOf st).size){Q:Bool->SortSt->Prop}
  (h:∀ st',Rs κ r a0 lo st'->(pendingOf st').size+1=(pendingOf st).size->(∀ k,lo<=k->(arrOf st')[k]?=(arrOf st)[k]?)->Q true st'):wpS (model prog w) A E s (mergeAt' i) Q st:=by
 obtain⟨kd,fl,pm,rn,le⟩:=R;have sz:(arrOf st).size=a0.size:=pm.size_eq;have pl:=Zbf.mp pm;obtain⟨⟨sa,na,p1⟩,e1⟩:∃ x,(pendingOf st)[i]?=some x:=⟨_,Za8 (by lia)⟩
 obtain⟨⟨sb,nb,p2⟩,e2⟩:∃ x,(pendingOf st)[i+1]?=some x:=⟨_,Za8 hi⟩;have f1:(pendingOf st).toList[i]?=some (sa,na,p1):=by rw[ZaN];exact e1
 have f2:(pendingOf st).toList[i+1]?=some (sb,nb,p2):=by rw[ZaN];exact e2
 rw[J7 f1 f2] at rn;obtain⟨k0,r1,q1,q2,q3,q4,q5,q6,r2⟩:=Rn.app.mp rn;have q1:sa=k0:=q1;subst q1;have q4:sb=sa+na:=q4;have q2:1<=na:=q2;have q5:1<=nb:=q5;have q3:gA r (arrOf st) sa (sa+na):=q3;have q6:gA r (arrOf st) (sa+na) (sa+na+nb):=q6;have r2:Rn r (arrOf st) (sa+na+nb) ((pendingOf st).toList.drop (i+2)) lo:=r2;have b1:=r1.le;have b2:=r2.le;subst q4;refine z6 hc kd fl e1 e2 rfl q2 q5 (by lia) (λx hx=>dm x (pl.mem_iff.mp hx)) (un.perm pl) ((tM (by lia)).mpr q3) ((tM (by lia)).mpr q6) λM arr' g eq pM sM=>?_
 have ll:(arrOf st).toList.length=(arrOf st).size:=by simp
 have ml:M.length=na+nb:=by rw[pM.length_eq,jD _ (by lia)];lia
 have tl:((arrOf st).toList.take sa).length=sa:=by simp;lia
 have low:∀ k,k<sa->arr'[k]?=(arrOf st)[k]?:=λk hk=>by
  rw[<-ZaN,eq,Zar,Zav (by lia),List.getElem?_take,Zah hk,ZaN]
 have high:∀ k,sa+na+nb<=k->arr'[k]?=(arrOf st)[k]?:=λk hk=>by
  rw[<-ZaN,eq,Zaw (by rw[List.length_append];lia),List.length_append,tl,ml,List.getElem?_drop,show sa+na+nb+(k-(sa+(na+nb)))=k by lia,ZaN]
 have ap:arr'.Perm (arrOf st):=by
  rw[Zbf,eq]
  conv=>rhs;rw[QJ (arrOf st).toList (show sa<=sa+na+nb by lia)]
  exact ZbH _ (Zbc _ pM)
 have az:arr'.size=(arrOf st).size:=ap.size_eq;have mid:gA r arr' sa (sa+(na+nb)):=by
  refine(tM (by lia)).mp ?_
  have:bK arr'.toList sa (sa+(na+nb))=M:=by
   unfold bK;rw[eq,List.take_append_of_le_length (by rw[List.length_append];lia),ZaX (by rw[List.length_append];lia),List.drop_append_of_le_length (by lia),Zbg (by lia),List.nil_append]
  rw[this];exact sM
 have pe:(((pendingOf st).setIfInBounds i (sa,na+nb,p1)).eraseIdxIfInBounds (i+1)).toList=(pendingOf st).toList.take i++(sa,na+nb,p1)::(pendingOf st).toList.drop (i+2):=by
  rw[Array.toList_eraseIdxIfInBounds,Array.toList_setIfInBounds];exact Hs f1 f2
 refine h _ ⟨rfl,rfl,ap.trans pm,?_,le⟩ ?_ λk hk=>high k (by lia)
 ·show Rn r arr' 0 (((pendingOf st).setIfInBounds i (sa,na+nb,p1)).eraseIdxIfInBounds (i+1)).toList lo
  rw[pe];refine Rn.app.mpr ⟨sa,r1.congr λk _ hk=>low k hk,rfl,by show 1<=na+nb;lia,mid,?_⟩
  show Rn r arr' (sa+(na+nb)) _ lo
  rw[show sa+(na+nb)=sa+na+nb by lia]
  exact r2.congr λk hk _=>high k hk
 ·show(((pendingOf st).setIfInBounds i (sa,na+nb,p1)).eraseIdxIfInBounds (i+1)).size+1=_
  rw[<-Za6,pe];have:(pendingOf st).toList.length=(pendingOf st).size:=by simp
  simp;lia
end
section
variable{prog:Program}{w:World}{A:Around}{E:Value->Shared->Prop}{s:Shared}{κ:SortKind}{D:Keyed->Prop}{r:Keyed->Nat}{st:SortSt}{a0:Array Keyed}
theorem Rn.mod{a:Array Keyed}{f:Pd->Pd}(hf:∀ x,(f x).1=x.1/\(f x).2.1=x.2.1):∀ {l:List Pd}{i s e:Nat},Rn r a s l e->Rn r a s (l.modify i f) e
 |[],_,_,_,h=>by simpa using h
 |x::l,0,s,e,⟨h1,h2,h3,h4⟩=>by
  rw[List.modify_zero_cons];exact⟨(hf x).1.trans h1,by rw[(hf x).2];exact h2,by rw[(hf x).2];exact h3,by rw[(hf x).2];exact h4⟩
 |x::l,i+1,s,e,⟨h1,h2,h3,h4⟩=>by
  rw[List.modify_succ_cons];exact⟨h1,h2,h3,Rn.mod hf h4⟩
theorem uP{M:Model}{lo n:Nat}(R:Rs κ r a0 lo st)(S:gA r (arrOf st) lo (lo+n))(n1:1<=n)(hz:lo+n<=a0.size){Q:ForInStep (Option Unit×Nat)->SortSt->Prop}(h:∀ st',Rs κ r a0 (lo+n) st'->Q (.yield (none,lo+n)) st'):wpS M A E s (nR lo n) Q st:=by
 unfold nR;refine Zam (wpS_modify (Zat (h _ ⟨R.kd,R.fl,R.pm,?_,hz⟩)));show Rn r (arrOf st) 0 ((pendingOf st).push (lo,n,0)).toList (lo+n)
 rw[Zbn];exact Rn.app.mpr ⟨lo,R.rn,rfl,n1,S,rfl⟩
theorem Dc{pw lo n:Nat}(hc:Cmp prog w A s κ D r)(dm:∀ x∈a0.toList,D x)(un:Unl r a0.toList)(R:Rs κ r a0 lo st)(S:gA r (arrOf st) lo (lo+n)) :
  wpS (model prog w) A E s (qm pw) (λc st'=>(c=.done (none,())\/c=.yield (none,()))/\Rs κ r a0 lo st'/\gA r (arrOf st') lo (lo+n)) st:=by
 unfold qm;refine Zam (wpS_get ?_);by_cases q:(pendingOf st).size>1
 ·rw[Zah q];cases (pendingOf st)[(pendingOf st).size-2]? with
  |none=>exact Zat ⟨.inl rfl,R,S⟩
  |some x=>
   dsimp only;split
   ·exact Zat ⟨.inl rfl,R,S⟩
   ·refine Zam (J8 hc dm un R (by omega) λst' R' _ hk=>?_)
    rw[Zai (by decide)]
    exact Zat ⟨.inr rfl,R',S.congr λk g1 _=>hk k g1⟩
 ·rw[Zai q];exact Zat ⟨.inl rfl,R,S⟩
theorem J9{z lo n:Nat}(hc:Cmp prog w A s κ D r)(dm:∀ x∈a0.toList,D x)(un:Unl r a0.toList)(R:Rs κ r a0 lo st)(S:gA r (arrOf st) lo (lo+n))(n1:1<=n)(hz:lo+n<=a0.size){Q:ForInStep (Option Unit×Nat)->SortSt->Prop}(h:∀ st',Rs κ r a0 (lo+n) st'->Q (.yield (none,lo+n)) st'):wpS (model prog w) A E s (lay z lo n) Q st:=by
 unfold lay;refine Zam (wpS_get ?_);cases (pendingOf st).back? with
 |none=>exact uP R S n1 hz h
 |some x=>
  dsimp only;refine Zam (Za5 (Zba (I:=λ_ c st'=>c=(none,())/\Rs κ r a0 lo st'/\gA r (arrOf st') lo (lo+n)) (Q:=λc st'=>c=(none,())/\Rs κ r a0 lo st'/\gA r (arrOf st') lo (lo+n)) ?_ (λ_ _ g=>g) ⟨rfl,R,S⟩) ?_)
  ·rintro k c st' _ _ ⟨rfl,R',S'⟩;refine Za5 (Dc hc dm un R' S') λc st2 p=>?_;rcases p.1 with rfl|rfl
   ·exact⟨rfl,p.2⟩
   ·exact⟨rfl,p.2⟩
  ·rintro c st' ⟨rfl,R',S'⟩;dsimp only;refine Zam (wpS_modify ?_);generalize hm:((pendingOf st').modify ((pendingOf st').size-1) λy=>(y.1,y.2.1,power' z (2*x.1+x.2.1) (2*x.1+x.2.1+x.2.1+n) z))=pm
   refine uP (st:=setPending st' pm) ⟨R'.kd,R'.fl,R'.pm,?_,R'.le⟩ S' n1 hz h;show Rn r (arrOf st') 0 pm.toList lo
   rw[<-hm,Array.toList_modify];exact Rn.mod (f:=λy=>(y.1,y.2.1,power' z (2*x.1+x.2.1) (2*x.1+x.2.1+x.2.1+n) z)) (λy=>⟨rfl,rfl⟩) R'.rn
theorem Dd{z lo:Nat}(hc:Cmp prog w A s κ D r)(dm:∀ x∈a0.toList,D x)(un:Unl r a0.toList)(hz:z=a0.size)(R:Rs κ r a0 lo st){c0:Option Unit} :
  wpS (model prog w) A E s (tO z (c0,lo)) (λc st'=>(c=.done (none,lo)/\lo=z/\st'=st)\/∃ lo',c=.yield (none,lo')/\lo<lo'/\Rs κ r a0 lo' st') st:=by
 have sz:(arrOf st).size=a0.size:=R.pm.size_eq;have le:=R.le;have pl:=Zbf.mp R.pm;unfold tO;dsimp only;by_cases q:lo>=z
 ·rw[Zah q];exact Zat (.inl ⟨rfl,by omega,rfl⟩)
 ·rw[Zai q];have low:∀ {a2:Array Keyed},a2.Perm (arrOf st)->(∀ k,k<lo->a2[k]?=(arrOf st)[k]?)->Rs κ r a0 lo (setArr st a2):=λ{a2} p2 pre=>⟨R.kd,R.fl,p2.trans R.pm,R.rn.congr λk _ hk=>pre k hk,R.le⟩;refine Zam (wpS_countRun hc R.kd (λx hx=>dm x (pl.mem_iff.mp hx)) (un.perm pl) (by omega) (by omega) λn a2 n1 n2 p2 pre S=>?_)
  dsimp only;have R2:=low p2 pre;have pl2:=Zbf.mp (p2.trans R.pm);by_cases q2:n<minRun' z z 0
  ·rw[Zah q2];refine Zam (jY ?_);refine Zam (wpS_binarySort (st:=setArr st a2) hc R.kd (λx hx=>dm x (pl2.mem_iff.mp hx)) (un.perm pl2) n1 (by omega) (by show _<=a2.size;rw[p2.size_eq];omega) S λa3 p3 pre3 S3=>?_)
   rw[Zai (by decide)]
   have R3:Rs κ r a0 lo (setArr (setArr st a2) a3):=⟨R.kd,R.fl,(show a3.Perm a2 from p3).trans (p2.trans R.pm),R.rn.congr λk _ hk=>(pre3 k hk).trans (pre k hk),R.le⟩;exact J9 hc dm un R3 S3 (by omega) (by omega) λst' R'=>.inr ⟨_,rfl,by omega,R'⟩
  ·rw[Zai q2];exact J9 hc dm un R2 S (by omega) (by omega) λst' R'=>.inr ⟨_,rfl,by omega,R'⟩
theorem wpS_sortRuns(hc:Cmp prog w A s κ D r)(hk:kindOf st=κ)(hf:failedOf st=none)(hp:pendingOf st=#[])(dm:∀ x∈(arrOf st).toList,D x)(un:Unl r (arrOf st).toList){Q:Unit->SortSt->Prop}
  (h:∀ st',(arrOf st').Perm (arrOf st)->failedOf st'=none->Srt r (arrOf st').toList->Q () st'):wpS (model prog w) A E s sortRuns' Q st:=by
 rw[xX];unfold rH;refine Zam (wpS_get ?_);have R0:Rs κ r (arrOf st) 0 st:=⟨hk,hf,Array.Perm.refl _,by rw[hp];rfl,Zbb _⟩
 refine Zam (Za5 (Zba (I:=λk c st'=>∃ lo,c=(none,lo)/\Rs κ r (arrOf st) lo st'/\k<=lo) (Q:=λc st'=>c=(none,(arrOf st).size)/\Rs κ r (arrOf st) (arrOf st).size st') ?_ ?_ ⟨0,rfl,R0,Zag _⟩) ?_)
 ·rintro k c st' _ _ ⟨lo,rfl,R,hlo⟩;refine Za5 (Dd hc dm un rfl R) λc st2 p=>?_;rcases p with⟨rfl,rfl,rfl⟩|⟨lo',rfl,g,R'⟩
  ·exact⟨rfl,R⟩
  ·exact⟨lo',rfl,R',by lia⟩
 ·rintro c st' ⟨lo,rfl,R,hlo⟩;have:=R.le;have e:lo=(arrOf st).size:=by lia
  subst e;exact⟨rfl,R⟩
 ·rintro c st' ⟨rfl,R⟩;dsimp only;have pz:∀ {st2:SortSt},Rs κ r (arrOf st) (arrOf st).size st2->(pendingOf st2).size<=(arrOf st).size:=λR2=>by
   have:=R2.rn.le;simp at this;exact this
  refine Zam (Za5 (Zba (I:=λk c st2=>c=(none,())/\Rs κ r (arrOf st) (arrOf st).size st2/\((pendingOf st2).size+k<=(arrOf st).size\/(pendingOf st2).size<=1)) (Q:=λc st2=>c=(none,())/\Rs κ r (arrOf st) (arrOf st).size st2/\(pendingOf st2).size<=1) ?_ ?_ ⟨rfl,R,.inl (by have:=pz R;lia)⟩) ?_)
  ·rintro k c st2 _ _ ⟨rfl,R2,hs⟩;unfold Fy;refine Zam (wpS_get ?_);by_cases q:(pendingOf st2).size<=1
   ·rw[Zah q];exact Zat ⟨rfl,R2,q⟩
   ·rw[Zai q];refine Zam (J8 hc dm un R2 ?_ λst3 R3 e3 _=>?_)
    ·have:J6 st2<=(pendingOf st2).size-2:=by
      unfold J6;generalize (if(pendingOf st2).size-2>0 then Option.map (λx:Pd=>x.2.1) (pendingOf st2)[(pendingOf st2).size-2-1]? else none)=o
      split<;>lia
     lia
    ·rw[Zai (by decide)]
     exact Zat ⟨rfl,R3,.inl (by lia)⟩
  ·rintro c st2 ⟨rfl,R2,hs⟩;exact⟨rfl,R2,by lia⟩
  ·rintro c st2 ⟨rfl,R2,hs⟩;refine Zat (h st2 R2.pm R2.fl ?_);have sz:(arrOf st2).size=(arrOf st).size:=R2.pm.size_eq;have all:gA r (arrOf st2) 0 (arrOf st2).size:=by
    have rn:=R2.rn;have pl:(pendingOf st2).toList.length<=1:=by simpa using hs
    match hq:(pendingOf st2).toList,pl with
    |[],_=>
     rw[hq] at rn;have rn:0=(arrOf st).size:=rn;intro p q _ _ h3;lia
    |[x],_=>
     rw[hq] at rn;obtain⟨_,_,g3,g4⟩:=rn;have g4:0+x.2.1=(arrOf st).size:=g4;rw[g4,<-sz] at g3;exact g3
   have:=(tM (r:=r) (a:=arrOf st2) (i:=0) (Zag _)).mpr all;unfold bK at this;rw[Zbe,ZaX (by simp)] at this
   exact this
end
end L2.TS
namespace L2
open PySem PySem.Spec PyProof PyProof.Rows
namespace MP
section
variable{p:PV}
theorem Fz{κ:Type}[DecidableEq κ]{k:κ}{p q:PV}:∀ {l:List (κ×PV)},bD (bD l k p) k q=bD l k q
 |[]=>by simp[bD]
 |(a,r)::l=>by
  by_cases h:a=k
  ·simp[bD,h]
  ·simp[bD,h,Fz (l:=l)]
theorem Ka{κ:Type}[DecidableEq κ]{k:κ}{p:PV}:∀ {l:List (κ×PV)},cU (bD l k p) k=some p
 |[]=>by simp[bD,cU]
 |(a,r)::l=>by
  by_cases h:a=k
  ·simp[bD,cU,h]
  ·simp[bD,cU,h,Ka (l:=l)]
theorem z7{κ:Type}[DecidableEq κ]{k:κ}{p:PV}:∀ {l:List (κ×PV)},cU l k=some p->bD l k p=l
 |[],e=>by cases e
 |(a,r)::l,e=>by
  unfold cU at e;by_cases h:a=k
  ·rw[Zah h] at e;cases e;simp[bD,h]
  ·rw[Zai h] at e;simp[bD,h,z7 e]
end
end MP
open PySem PySem.Spec PySem.W PyProof PyProof.Rows
noncomputable abbrev Sk:=Str×List Int
def ltI:List Int->List Int->Bool
 |a::l,b::m=>if a=b then ltI l m else decide (a<b)
 |_,_=>false
theorem ph:∀ l,ltI l l=false
 |[]=>rfl
 |a::l=>by unfold ltI;rw[Zah rfl];exact ph l
theorem wD:∀ {l m n:List Int},ltI l m=true->ltI m n=true->ltI l n=true
 |a::l,b::m,c::n,h1,h2=>by
  unfold ltI at h1 h2 ⊢;by_cases e1:a=b
  ·rw[Zah e1] at h1;by_cases e2:b=c
   ·rw[Zah e2] at h2;rw[Zah (e1.trans e2)];exact wD h1 h2
   ·rw[Zai e2] at h2;rw[Zai (λz=>e2 (e1.symm.trans z)),e1];exact h2
  ·rw[Zai e1] at h1;have h1:=ZaT h1;by_cases e2:b=c
   ·rw[Zai (λz=>e1 (z.trans e2.symm)),<-e2];exact Zaz h1
   ·rw[Zai e2] at h2;have h2:=ZaT h2;rw[Zai (by omega)]
    exact Zaz (by omega)
 |[],_,_,h1,_=>by cases h1
 |_::_,[],_,h1,_=>by cases h1
 |_::_,_::_,[],_,h2=>by cases h2
theorem wF:∀ {l m:List Int},l.length=m.length->l≠m->ltI l m=true\/ltI m l=true
 |[],[],_,h=>absurd rfl h
 |a::l,b::m,hl,h=>by
  unfold ltI;by_cases e:a=b
  ·subst e;rw[Zah rfl,Zah rfl];exact wF (by simpa using hl) λz=>h (by rw[z])
  ·rw[Zai e,Zai (Zbp e)];rcases Int.lt_or_gt_of_ne e with q|q
   ·exact .inl (Zaz q)
   ·exact .inr (Zaz q)
open PySem PySem.Spec PySem.W PyProof PyProof.Rows
theorem rJ:∀ {ys:List Value}{ns ms:List Int},IntsAre ys ns->IntsAre ys ms->ns=ms
 |_,_,_,.nil,.nil=>rfl
 |_,_,_,.cons n _ h1,.cons _ _ h2=>by rw[rJ h1 h2]
section
theorem mL:∀ {ys:List Value}{ns:List Int},IntsAre ys ns->ys.length=ns.length
 |_,_,.nil=>rfl
 |_,_,.cons _ _ h=>by simp[mL h]
theorem Ht{r:Nat->Nat->Prop}{n:Nat}(h:n<2):(List.range n).Pairwise r:=by
 rcases(by omega:n=0\/n=1) with rfl|rfl
 ·exact .nil
 ·exact List.pairwise_singleton _ _
end
open PySem PySem.Spec PySem.W PyProof PyProof.Rows
end L2
namespace L2.MP
open PySem PySem.Spec PySem.W PyProof PyProof.Rows
end L2.MP
namespace L2
open PySem PySem.Spec PyProof PyProof.Rows
namespace MP
end MP
namespace MP
end MP
namespace MP
end MP
end L2
namespace L2.MP
section
variable{α:Type}{us:List α}
theorem len0(h:us.length=0):us=[]:=List.length_eq_zero_iff.mp h
theorem M8{n:Nat}(h:us.length=n+1):∃ a vs,us=a::vs/\vs.length=n:=by
 cases us with
 |nil=>cases h
 |cons a vs=>exact⟨a,vs,rfl,Nat.succ.inj h⟩
theorem xY(h:us.length=1):∃ a,us=[a]:=by
 obtain⟨a,vs,rfl,h2⟩:=M8 h;cases len0 h2;exact⟨a,rfl⟩
theorem uQ(h:us.length=2):∃ a b,us=[a,b]:=by
 obtain⟨a,vs,rfl,h2⟩:=M8 h;obtain⟨b,rfl⟩:=xY h2;exact⟨a,b,rfl⟩
theorem z8(h:us.length=3):∃ a b c,us=[a,b,c]:=by
 obtain⟨a,vs,rfl,h2⟩:=M8 h;obtain⟨b,c,rfl⟩:=uQ h2;exact⟨a,b,c,rfl⟩
theorem Tq(h:us.length=4):∃ a b c d,us=[a,b,c,d]:=by
 obtain⟨a,vs,rfl,h2⟩:=M8 h;obtain⟨b,c,d,rfl⟩:=z8 h2;exact⟨a,b,c,d,rfl⟩
end
end L2.MP
namespace L2
open PySem PySem.Spec PyProof PyProof.Rows
inductive LtK:List Key->List Key->Bool->Prop
 |nn:LtK [] [] false
 |nc (k:Key) (l:List Key):LtK [] (k::l) true
 |cn (k:Key) (l:List Key):LtK (k::l) [] false
 |eq (k:Key) {l m:List Key}{r:Bool} (h:LtK l m r):LtK (k::l) (k::m) r
 |int {i j:Int} (l m:List Key) (h:i≠j):LtK (.inl i::l) (.inl j::m) (decide (i<j))
 |str {i j:Str} (l m:List Key) (h:i≠j):LtK (.inr i::l) (.inr j::m) (decide (i.cps.toList<j.cps.toList))
theorem xZ{i:Int}{u:Value}(r:RelV (kV (.inl i)) u):∃ t,u=.int i t:=r
theorem yc{i:Str}{u:Value}(r:RelV (kV (.inr i)) u):∃ t,u=.str i t:=r
section
open PySem.SeqAt
open PySem.AutoSeq1 (wpAny_loadPart')
open PySem.MeetsSeq PySem.MeetsSeq2 PySem.MeetsSeq3
theorem Kc(A:Around)(s:Shared)(a:Str)(t:Tok)(c:Str)(u:Tok)(prog:Program)(w:World)(E:Value->Shared->Prop)(Q:Value->Shared->Prop)(h:Q (.bool (decide (a.cps.toList<c.cps.toList))) s) :
  wpAny (model prog w) A (richCompare .Lt (.str a t) (.str c u)) Q E s:=
 (PyProof.Rows.lt_str h:wpAny (model prog w) A (compareOp .Lt (.str a t) (.str c u)) Q E s)
theorem Kd(A:Around)(s:Shared)(k:Key){v u:Value}(h1:RelV (kV k) v)(h2:RelV (kV k) u):EqAt A s v u true:=by
 cases k with
 |inl i=>
  obtain⟨t,rfl⟩:=xZ h1;obtain⟨t',rfl⟩:=xZ h2;have:=EqAt.int_int (A:=A) (s:=s) i t i t'
  rwa [beq_self_eq_true] at this
 |inr i=>
  obtain⟨t,rfl⟩:=yc h1;obtain⟨t',rfl⟩:=yc h2;have:=EqAt.str_str (A:=A) (s:=s) i t i t'
  rwa [beq_self_eq_true] at this
theorem vG(l b:Addr)(items items2:Array Value)(n n2:Nat)(dd dd2:Option Addr)(sl sl2:Array (Option Value))(ns ms:List Key)(r:Bool)(hi:Vals (ns.map kV) items.toList)(hj:Vals (ms.map kV) items2.toList)(hr:LtK ns ms r) :
  Meets (Builtin.«tuple.__lt__» ⟨[.ref l,.ref b],[]⟩)
   (λ_ R s=>s.heap.get? l=some { cls:=.type "tuple",dict:=dd,data:=.seq items n,slots:=sl }/\s.heap.get? b=some { cls:=.type "tuple",dict:=dd2,data:=.seq items2 n2,slots:=sl2 } /\
    R (.ok (.ret (.bool r))) s):=
 .of_wp λprog w A R s h=>by
  obtain⟨hp,g,d,tk,os⟩:=s;obtain⟨hl,hb,h⟩:=h;have f2:=AutoSeq1.sub_tuple_tuple;have z1:items.size=ns.length:=by have:=hi.length;simpa using this.symm
  have z2:items2.size=ms.length:=by have:=hj.length;simpa using this.symm
  wp_walk using wpAny_loadPart' hl,wpAny_loadPart' hb,wpAny_forIn_list _ (λrest b s'=>b.1=none/\s'=⟨hp,g,d,tk,os⟩/\∃ (vs ws:List Value) (ns' ms':List Key),rest=vs.zip ws /\
   Vals (ns'.map kV) vs/\Vals (ms'.map kV) ws/\ns'.length+items2.size=ms'.length+items.size/\LtK ns' ms' r) _
  case turn=>
   rintro⟨y,x⟩ rest b s' ⟨hb',rfl,vs,ws,ns',ms',hz,hvi,hwi,hlen,hR⟩;cases hR with
   |nn=>cases hvi;rw[List.zip_nil_left] at hz;cases hz
   |nc k l=>cases hvi;rw[List.zip_nil_left] at hz;cases hz
   |cn k l=>cases hwi;rw[List.zip_nil_right] at hz;cases hz
   |eq k hR=>
    cases hvi with
    |cons r1 hvi'=>
     cases hwi with
     |cons r2 hwi'=>
      rw[List.zip_cons_cons] at hz;injection hz with hyx hrest
      injection hyx with hy hx
      subst hy hx;simp only[ZaK] at hlen;refine Zak (Kd A.in1 ⟨hp,g,d,tk,os⟩ k r1 r2 prog w _ _ ?_)
      wp_walk
      exact⟨rfl,rfl,_,_,_,_,hrest,hvi',hwi',by omega,hR⟩
   |@int i j l m ne=>
    cases hvi with
    |cons r1 hvi'=>
     cases hwi with
     |cons r2 hwi'=>
      rw[List.zip_cons_cons] at hz;injection hz with hyx hrest
      injection hyx with hy hx
      subst hy hx;obtain⟨t,rfl⟩:=xZ r1;obtain⟨u,rfl⟩:=xZ r2;have he:=EqAt.int_int (A:=A.in1) (s:=⟨hp,g,d,tk,os⟩) i t j u;rw[beq_eq_false_iff_ne.mpr ne] at he;refine Zak (he prog w _ _ ?_);have hri:=HT.Jb A.in1 ⟨hp,g,d,tk,os⟩ i t j u prog w
      wp_walk using hri
      exact⟨_,rfl,by simpa using h⟩
   |@str i j l m ne=>
    cases hvi with
    |cons r1 hvi'=>
     cases hwi with
     |cons r2 hwi'=>
      rw[List.zip_cons_cons] at hz;injection hz with hyx hrest
      injection hyx with hy hx
      subst hy hx;obtain⟨t,rfl⟩:=yc r1;obtain⟨u,rfl⟩:=yc r2;have he:=EqAt.str_str (A:=A.in1) (s:=⟨hp,g,d,tk,os⟩) i t j u;rw[beq_eq_false_iff_ne.mpr ne] at he;refine Zak (he prog w _ _ ?_);have hri:=Kc A.in1 ⟨hp,g,d,tk,os⟩ i t j u prog w
      wp_walk using hri
      exact⟨_,rfl,by simpa using h⟩
  case fin=>
   rintro⟨b1,b2⟩ s' ⟨hb',rfl,vs,ws,ns',ms',hz,hvi,hwi,hlen,hR⟩;simp only at hb';subst hb';have no:∀ {k k':Key}{l m:List Key},Vals ((k::l).map kV) vs->Vals ((k'::m).map kV) ws->False:=λh1 h2=>by
    cases h1;cases h2;rw[List.zip_cons_cons] at hz;cases hz
   have hv:r=decide (items.size<items2.size):=by
    cases hR with
    |nn=>simp only[List.length_nil] at hlen;exact(ZaD (by omega)).symm
    |nc k l=>simp only[List.length_nil,ZaK] at hlen;exact(Zaz (by omega)).symm
    |cn k l=>simp only[List.length_nil,ZaK] at hlen;exact(ZaD (by omega)).symm
    |eq k hR=>exact(no hvi hwi).elim
    |int l m ne=>exact(no hvi hwi).elim
    |str l m ne=>exact(no hvi hwi).elim
   rw[hv] at h
   wp_walk
   exact⟨_,rfl,by simpa[Builtin.Tuple.tupleCompareSizes] using h⟩
  case h=>
   exact⟨rfl,rfl,items.toList,items2.toList,ns,ms,rfl,hi,hj,by omega,hr⟩
end
theorem De{prog:Program}{w:World}{A:Around}{E:Value->Shared->Prop}{s:Shared}{l b:Addr}{items items2:Array Value}{ns ms:List Key}{r:Bool}{Q:Value->Shared->Prop}(hl:IsTup s.heap l items)(hb:IsTup s.heap b items2)(hi:Vals (ns.map kV) items.toList)(hj:Vals (ms.map kV) items2.toList)(hr:LtK ns ms r)
  (hu:A.units<cLine)(h:Q (.bool r) s):wpAny (model prog w) A (compareOp .Lt (.ref l) (.ref b)) Q E s:=by
 obtain⟨⟨cls,dd,data,sl⟩,ho,hc,n,hd⟩:=id hl;obtain⟨⟨cls2,dd2,data2,sl2⟩,ho2,hc2,n2,hd2⟩:=id hb;simp only at hc hd hc2 hd2;subst hc hd hc2 hd2;exact richCompare_meets_room (op:=.Lt) ⟨_,ho,rfl⟩ ⟨_,ho2,rfl⟩ PySem.F.slot_tuple_lt PySem.F.entry_tuple_lt (PySem.F.args_tuple_lt_2 _ _) (vG l b items items2 n n2 dd dd2 sl sl2 ns ms r hi hj hr)
  ⟨ho,ho2,show Value.bool r≠Value.notImplemented/\Q (.bool r) s from⟨(λx=>nomatch x),h⟩⟩ hu
end L2
namespace L2.MP
open PySem PySem.Spec PyProof PyProof.Rows
end L2.MP
namespace L2.SE
open PySem
def Inc(xs:Array Nat):Prop:=xs.toList.Pairwise (·<·)
structure Good(b:Bool)(t:SetTable):Prop where
 led:t.led=b
 dum:t.dummies=#[]
 inc:Inc t.place
open PySem PySem.Spec PyProof PyProof.Rows
section
variable{prog:Program}{w:World}{K:Type}[DecidableEq K](knd:KeyKind prog w K)
def Apart(l:List (Int×Value)):Prop:=l.Pairwise λe f=>∀ k,knd.is k e.2=true->knd.is k f.2=true->False
structure Els(S:K->Bool)(es:Array (Int×Value)):Prop where
 el:ElemsOf knd es.toList
 ap:Apart knd es.toList
 mem:∀ k,S k=true↔∃ e∈es.toList,knd.is k e.2=true
def Tr(h:Heap)(a:Addr)(b:Bool)(S:K->Bool)(n:Nat):Prop:=
 ∃ o es ep t,h.get? a=some o/\o.ExactSet/\o.data=.set es ep t/\Els knd S es/\es.size<scanBound/\t.fits es.size=true/\Good b t/\es.size<=n
variable{knd}{S:K->Bool}{a:Addr}{b:Bool}{n:Nat}
theorem lay{h:Heap}{o:Obj}{es:Array (Int×Value)}{ep:Nat}{t:SetTable}(ho:h.get? a=some o)(hex:o.ExactSet)(hd:o.data=.set es ep t){es':Array (Int×Value)}{t':SetTable}
  (x:Els knd S es')(hb:es'.size<scanBound)(hf:t'.fits es'.size=true)(g:Good b t')(hn:es'.size<=n) :
  (h.update a (Obj.putSet es' t')).get? a=some { o with data:=.set es' (ep+1) t' }/\Tr knd (h.update a (Obj.putSet es' t')) a b S n:=by
 have q:=(SetOf_store (knd:=knd) ho hex hd x.el x.mem hb hf).1;exact⟨q,_,es',ep+1,t',q,hex,rfl,x,hb,hf,g,hn⟩
end
open PySem PySem.Spec PyProof PyProof.Rows
section
variable{K:Type}[DecidableEq K]
def seen(key:Nat->K)(i:Nat):K->Bool:=λk=>(List.range i).any λj=>decide (k=key j)
end
open PySem PySem.Spec PyProof PyProof.Rows
def It(h:Heap)(I:Addr)(f:Value)(i:Nat)(a:Addr)(n ep:Nat):Prop:=∃ o,h.get? I=some o/\o.cls=.type "set_iterator"/\o.data=.fields #[f,.int i 0,.ref a,.int n 0,.int ep 0]
open PySem PySem.Spec PyProof PyProof.Rows
open PySem PySem.Spec PyProof PyProof.Rows
open PySem PySem.Spec PyProof PyProof.Rows
def slots(t:SetTable):Nat->Nat
 |0=>0
 |i+1=>t.place.getD i 0+1
end L2.SE
namespace L2
open PySem PySem.Spec PyProof PyProof.Rows
def dd:List Int->List Int
 |[]=>[]
 |x::l=>if x∈l then dd l else x::dd l
namespace MP
end MP
namespace MP
end MP
end L2
namespace L2.MP
open PySem PySem.Spec PyProof.Rows
open PySem PySem.Spec PyProof PyProof.Rows
section
variable{K:Frag}{C:Cg}{te tb:TE}{F F1 F2 H H1 H2:Hp}{σ:St}{ρ:Rho}{D:Ends}{S:Addr->Prop}{v:V}{p:PV}
def jZ(i:Nat)(fk fe:Fn PV):Sn:=λρ=>match CQ i ρ with
 |some (.dk l)=>if l.length<sizeLine then kj (fk ρ) λkp=>match qb kp with
  |some k=>match(cU l k).getD (.lst []) with
   |.lst row=>kj (fe (ρ.set i (some (.dp (.dk (bD l k (.lst row))))))) λq=>if q.still=true/\row.length<sizeLine then some (.nx (ρ.set i (some (.dp (.dk (bD l k (.lst (row++[q]))))))))
    else none
   |_=>none
  |none=>none else none
 |_=>none
theorem uR{i:Nat}{l:List (Key×PV)}{k:Key}{row:List PV}{q:PV}{P:Nat->Addr->Prop}{a b:Addr}{xs:List (Key×V)}{w:V}(R:RE K C.toCf F H σ ρ)(d:RD K C.toCf F H σ ρ P)(ei:ρ[i]?=some (some (.dp (.dk l))))(es:σ[i]?=some (some (.ref a)))(ha:H a=some (.dK xs))(hv:iC xs k=some (.ref b))(hp:cU l k=some (.lst row))(rep:Rep K F w q)(st:q.still=true) :
  ∃ ys,H b=some (.lst ys)/\ys.length=row.length/\RE K C.toCf F (upd H b (.lst (ys++[w]))) σ (ρ.set i (some (.dp (.dk (bD l k (.lst (row++[q]))))))):=by
 obtain⟨v,e1,dp⟩:=d.dp i _ ei;rw[es] at e1;cases e1;obtain⟨T,a',xs',ea,ha',Pa,hT,dj,hkeys,hch⟩:=dp.xU;cases ea;rw[ha] at ha';cases ha';obtain⟨j,w',lj,xj,hvw,hput⟩:=nQ hkeys hp;rw[hv] at hvw;cases hvw;obtain⟨T2,b',ys,eb,hb,sb,ht2,ds2⟩:=(hch j _ _ xj lj).cF;have eb:V.ref b=.ref b':=eb;cases eb;have nab:a≠b:=λz=>(hT j b sb).2 z.symm;have nt:∀ c zs,H c=some (.tup zs)->upd H b (.lst (ys++[w])) c=some (.tup zs):=λc zs z=>by
  rw[aq (λy=>by subst y;rw[hb] at z;cases z)];exact z
 refine⟨ys,hb,ds2.1,?_⟩;refine R.JV d ei es (hT j b sb).1 (λzs z=>by cases z) (S':=P i) (.dk (S:=T) (xs:=xs) (by rw[aq nab];exact ha) Pa hT dj (by rw[hput,JZ lj];exact hkeys) λm x r h1 h2=>?_) λc z=>.inl z
 rw[hput] at h2;rcases get_set h2 with⟨f1,f2⟩|⟨f1,f2⟩
 ·subst f1;subst f2;rw[xj] at h1;cases h1;exact Dp.snoc hb sb ht2 ds2 rep st
 ·exact(hch m x r h1 f2).up (aR.refl _) (λc o z y=>by rw[aq (λe=>by subst e;exact f1 (dj j m c sb z))];exact y) nt
theorem uT{i:Nat}{fk fe:Fn PV}(hk:MJ K C (aF K) tb fk)(he:MJ K C (aF K) te fe) :
  MS K C (Ir (tBM K "list" wX (zO (qT i) tb (Qd yR)) (ud te yR))) (jZ i fk fe):=by
 intro F H σ ρ D o R e Pq;unfold jZ at e;split at e
 case h_2=>cases e
 rename_i l hl;split at e
 case isFalse=>cases e
 rename_i hlen;obtain⟨P0,d0⟩:=R.dd;obtain⟨v0,e0,dp0⟩:=d0.dp i _ (jC hl);obtain⟨_,a,xs0,rfl,ha0,_⟩:=dp0.xU;refine⟨_,e0,a,rfl,.inl ⟨xs0,.inl ha0⟩,?_⟩;rcases dR e with⟨z,e1,rfl⟩|⟨kp,e1,hk1⟩
 ·exact hk F H σ ρ _ _ R e1 Pq
 refine hk F H σ ρ _ _ R e1 λy F1 H1 u ry=>?_;split at hk1
 case h_2=>cases hk1
 rename_i k hkk;split at hk1
 case h_2=>cases hk1
 rename_i row hrow;cases qd hkk ry;refine⟨Zbb _,λn hn=>?_⟩;have u1:Up F1 H1 F1 (upd H1 n (.lst [])):=Up.Hf u.fh hn;have RA:=R.up u;obtain⟨P1,dA⟩:=RA.dd;have R1:=RA.up u1;have d1:=dA.up u1;obtain⟨v1,e1',dp1⟩:=d1.dp i _ (jC hl);rw[e0] at e1';cases e1';obtain⟨T,a',xs,ea,ha,Pa,hT,dj,hkeys,hch⟩:=dp1.xU;cases ea;have lx:xs.length=l.length:=by have:=ZbJ List.length hkeys;simpa using this
 refine⟨xs,k,ha,rfl,by rw[lx];exact hlen,λv hv=>?_,λhv=>?_⟩
 ·cases hvl:cU l k with
  |none=>rw[(uJ hkeys hvl).1] at hv;cases hv
  |some q0=>
   rw[hvl] at hrow;have hrow:q0=.lst row:=hrow;subst hrow;rw[z7 hvl,zN (jC hl)] at hk1;obtain⟨j,w',lj,xj,hvw,_⟩:=nQ hkeys hvl;rw[hv] at hvw;cases hvw;obtain⟨T2,b,ys,eb,hb,sb,_,_⟩:=(hch j _ _ xj lj).cF;have eb:v=.ref b:=eb;subst eb;refine⟨tyL hb,?_⟩;rcases dR hk1 with⟨z,e2,rfl⟩|⟨q,e2,hk2⟩
   ·exact he F1 _ σ ρ _ _ R1 e2 (PX.up Pq (u.trans u1).ff)
   split at hk2
   case isFalse=>cases hk2
   rename_i hq;cases hk2;refine he F1 _ σ ρ _ _ R1 e2 λw F2 H2 u2 rep=>?_;obtain⟨ys2,hb2,yl,RR⟩:=uR (R1.up u2) (d1.up u2) (jC hl) e0 (u2.hh _ _ ha) hv hvl rep hq.1;exact⟨b,ys2,w,rfl,rfl,hb2,by rw[yl];exact hq.2,Pq F2 _ σ ((u.trans u1).trans u2).ff RR⟩
 ·cases hvl:cU l k with
  |some q0=>
   obtain⟨j,w',_,_,hvw,_⟩:=nQ hkeys hvl;rw[hv] at hvw;cases hvw
  |none=>
   rw[hvl] at hrow;have hrow:row=[]:=by
    have:PV.lst []=.lst row:=hrow;cases this;rfl
   subst hrow;have hput:=(uJ hkeys hvl).2;rw[Ji _ hv];have hn2:upd H1 n (.lst []) n=some (.lst []):=aK;have inP:∀ j x,P1 j x->x≠n:=λj x z y=>by
    subst y;obtain⟨_,⟨o,k2,_⟩,_⟩:=dA.own j x z;rw[hn] at k2;cases k2
   have nna:n≠a:=λz=>inP i a Pa z.symm;have il:=cH (jC hl);have R3:RE K C.toCf F1 (upd (upd H1 n (.lst [])) a (.dK (xs++[(k,.ref n)]))) σ (ρ.set i (some (.dp (.dk (bD l k (.lst [])))))):=by
    refine R1.JV d1 (jC hl) e0 Pa (λzs z=>by cases z) (S':=λc=>P1 i c\/c=n) ?_ λc z=>?_
    ·rw[hput];refine .dk (S:=λm x=>(m<xs.length/\T m x)\/(m=xs.length/\x=n)) (xs:=xs++[(k,.ref n)]) aK (.inl Pa) (λm x z=>?_) (λm m' x z z'=>?_) (by simp[hkeys]) λm x r h1 h2=>?_
     ·rcases z with⟨_,z⟩|⟨_,z⟩
      ·exact⟨.inl (hT m x z).1,(hT m x z).2⟩
      ·exact⟨.inr z,by rw[z];exact nna⟩
     ·rcases z with⟨q,z⟩|⟨q,z⟩<;>rcases z' with⟨q',z'⟩|⟨q',z'⟩
      ·exact dj m m' x z z'
      ·exact absurd z' (inP i x (hT m x z).1)
      ·exact absurd z (inP i x (hT m' x z').1)
      ·rw[q,q']
     ·by_cases hm:m<xs.length
      ·rw[Zav hm] at h1;rw[Zav (by omega)] at h2
       exact((hch m x r h1 h2).up (aR.refl _) (λc o z y=>by rw[aq (hT m c z).2];exact y) λc zs z=>by rw[aq (λy=>by subst y;rw[ha] at z;cases z)];exact z).mono λc z=>.inl ⟨hm,z⟩
      ·have em:m=xs.length:=by
        have:=cH h1;simp at this;omega
       subst em;rw[Zaw (Zag _),ZbO] at h1;rw[lx,Zaw (Zag _),ZbO] at h2;cases h1;cases h2;exact .lst (S:=λ_ _=>False) (by rw[aq nna];exact hn2) (.inr ⟨rfl,rfl⟩) (λ_ _ q=>q.elim) (λ_ _ _ q=>q.elim) rfl λj x p e1=>by simp at e1
    ·rcases z with z|z
     ·exact .inl z
     ·subst z;exact .inr ⟨u.fh.free hn,⟨_,hn2,λys q=>by cases q⟩,(d1.own i a Pa).2.2.1,RA.rb.um hn,λj z=>inP j c z rfl,λj q f=>RA.apart hn j q f⟩
   have hn3:upd (upd H1 n (.lst [])) a (.dK (xs++[(k,.ref n)])) n=some (.lst []):=by rw[aq nna];exact hn2
   refine⟨tyL hn3,?_⟩;rcases dR hk1 with⟨z,e2,rfl⟩|⟨q,e2,hk2⟩
   ·exact he F1 _ σ _ _ _ R3 e2 (PX.up Pq u.ff)
   split at hk2
   case isFalse=>cases hk2
   rename_i hq;cases hk2;refine he F1 _ σ _ _ _ R3 e2 λw F2 H2 u2 rep=>?_;obtain⟨P3,d3⟩:=R3.dd;have ei:(ρ.set i (some (.dp (.dk (bD l k (.lst []))))))[i]?=some (some (.dp (.dk (bD l k (.lst []))))):=by rw[List.getElem?_set,Zah rfl,Zah il]
   have hvn:iC (xs++[(k,V.ref n)]) k=some (.ref n):=by
    unfold iC at hv ⊢;rw[Option.map_eq_none_iff] at hv;rw[List.find?_append,hv];simp
   obtain⟨ys2,hb2,yl,RR⟩:=uR (R3.up u2) (d3.up u2) ei e0 (u2.hh _ _ aK) hvn Ka rep hq.1;rw[JW,Fz] at RR;exact⟨n,ys2,w,rfl,rfl,hb2,by rw[yl];exact hq.2,Pq F2 _ σ (u.ff.trans u2.ff) RR⟩
end
open PySem PySem.Spec PyProof PyProof.Rows
open PySem PySem.Spec PyProof PyProof.Rows
theorem Ke{prog:Program}{w:World}{A:Around}{E:Value->Shared->Prop}{s:Shared}{t b:Addr}{vs ws:List Value}{Q:Value->Shared->Prop}(ht:IsTup s.heap t vs.toArray)(hb:IsTup s.heap b ws.toArray)(hv:vs=[])(h0:Q (.ref b) s):wpAny (model prog w) A (binaryOp .Add (.ref t) (.ref b)) Q E s:=by
 obtain⟨⟨cls,dd,data,sl⟩,ho,hc,n,hd⟩:=id ht;obtain⟨⟨cls2,dd2,data2,sl2⟩,ho2,hc2,n2,hd2⟩:=id hb;simp only at hc hd hc2 hd2;subst hc hd hc2 hd2;exact concat_meets ⟨_,ho,rfl⟩ ⟨_,ho2,rfl⟩ noFill_tuple_add seq_tuple_add PySem.F.slot_tuple_add PySem.F.entry_tuple_add (PySem.F.args_tuple_add_2 _ _)
  (tuple_addW0 t b vs.toArray ws.toArray n n2 dd dd2 sl sl2 (by simp[hv])) ⟨ho,ho2,h0⟩
def O7(K:Frag):R2:=λx y H Q=>∃ a b ys,x=.ref a/\y=.ref b/\SqT K H a []/\SqT K H b ys/\Q (.ref b) H
def Kf(K:Frag):R2:=λx y H Q=>O7 K x y H Q\/Jc K x y H Q
section
variable{X:Cx}
theorem M9:OpR X (binaryOp .Add) (O7 X.K):=by
 intro pins s σ H x y v u Q I rx ry h;obtain⟨a,b,ys,rfl,rfl,ha,hb,q⟩:=h;cases rx;cases ry;obtain⟨its,r1,p1,_⟩:=I.tuple ha;obtain⟨its2,r2,p2,_⟩:=I.tuple hb;exact Ke p1 p2 (r1.sW.mpr rfl) ⟨.ref b,H,I,rfl,q⟩
theorem Nb:OpR X (binaryOp .Add) (Kf X.K):=OpR.or M9 Ef
variable{N:List Str}{scope:Scope}{cl:List (Str×Addr)}{C:Addr}{s2:Shared}{H2:Hp}{fp:List Addr}
theorem Kg:OpR (X.comp N scope cl C s2 H2 fp) (binaryOp .Add) (Kf X.K):=Nb
end
def Df:PV->PV->Option (Res PV)
 |.tup l,.tup m=>if l.length+m.length<=sizeLine then some (.ok (.tup (l++m))) else none
 |_,_=>none
section
variable{K:Frag}{C:Cg}
theorem QK:R2M C (aF K) (aF K) (aF K) (Kf K) Df:=by
 intro F H x y a b res Q s ha hb e P;have inv:∃ l m,a=.tup l/\b=.tup m:=by
  clear P ha hb
  cases a<;>first|exact noS e|(cases b<;>first|exact noS e|exact⟨_,_,rfl,rfl⟩)
 obtain⟨l,m,rfl,rfl⟩:=inv;have e:(if l.length+m.length<=sizeLine then some (Res.ok (PV.tup (l++m))) else none)=some res:=e;split at e
 ·rename_i h;cases e;obtain⟨a1,xs,rfl,h1,r1⟩:=Rep.cD ha;obtain⟨a2,ys,rfl,h2,r2⟩:=Rep.cD hb;by_cases hx:xs=[]
  ·subst hx;have hl:l=[]:=by have:=r1.1;simpa using this.symm
   subst hl;exact .inl ⟨a1,a2,ys,rfl,rfl,s.tup h1,s.tup h2,P _ F H (Up.refl s) hb⟩
  refine .inr ⟨a1,a2,xs,ys,rfl,rfl,s.tup h1,s.tup h2,hx,by rw[r1.1,r2.1];exact h,λz=>?_,λ_ p hp=>?_⟩
  ·subst z;have hm:m=[]:=by have:=r2.1;simpa using this.symm
   subst hm;rw[ZaM] at P;exact P _ F H (Up.refl s) ha
  ·have un:=Up.new (o:=.tup (xs++ys)) s hp;exact P _ _ _ un (.tup aK (r1.append r2).1 ((r1.append r2).up un.ff).2)
 ·cases e
end
end L2.MP
namespace L2
open PySem PySem.Spec PyProof PyProof.Rows
def leT(a b:Str):Bool:=!decide (b.cps.toList<a.cps.toList)
theorem kY{a b:Str}:leT a b=true↔a.cps.toList<=b.cps.toList:=by
 unfold leT;rw[Bool.not_eq_true',decide_eq_false_iff_not,List.not_lt]
theorem wG(a b c:Str)(h1:leT a b=true)(h2:leT b c=true):leT a c=true:=kY.mpr (List.le_trans (kY.mp h1) (kY.mp h2))
theorem Hu(a b:Str):(leT a b||leT b a)=true:=by
 rw[Bool.or_eq_true,kY,kY];exact List.le_total _ _
theorem Kh{a b:Str}(h1:leT a b=true)(h2:leT b a=true):a=b:=by
 have e:=List.le_antisymm (kY.mp h1) (kY.mp h2);cases a;cases b;simp only[Str.mk.injEq];exact Array.toList_inj.mp e
def qp(l:List Str):List Str:=l.mergeSort leT
theorem j0(l:List Str):(qp l).Perm l:=List.mergeSort_perm _ _
theorem z9(l:List Str):(qp l).Pairwise λa b=>leT a b=true:=List.pairwise_mergeSort wG Hu l
theorem wI:∀ (p:Str) (l:List Str),risingS p l=true->(p::l).Pairwise λa b=>leT a b=true
 |p,[],_=>List.pairwise_singleton _ _
 |p,x::r,h=>by
  have h:(!ltCps x.cps.toList p.cps.toList&&risingS x r)=true:=h;rw[Bool.and_eq_true,ltCps_eq] at h;have ih:=wI x r h.2;refine List.pairwise_cons.mpr ⟨λy hy=>?_,ih⟩;rcases ZaW.mp hy with rfl|hy
  ·exact h.1
  ·exact wG _ _ _ h.1 ((List.pairwise_cons.mp ih).1 y hy)
theorem Dg:∀ {l:List Str},sortedS l=true->l.Pairwise λa b=>leT a b=true
 |[],_=>.nil
 |x::r,h=>wI x r h
theorem yd{l m:List Str}(p:l.Perm m)(h:sortedS l=true):l=qp m:=
 List.Perm.eq_of_pairwise (le:=λa b=>leT a b=true) (λ_ _ _ _ h1 h2=>Kh h1 h2) (Dg h) (z9 m) (p.trans (j0 m).symm)
theorem qt:∀ {vs:List Value}{ss:List Str},StrsAre vs ss->Vals (ss.map V.str) vs
 |_,_,.nil=>.nil
 |_,_,.cons y t h=>.cons ⟨t,rfl⟩ (qt h)
section
variable{prog:Program}{w:World}{A:Around}{E:Value->Shared->Prop}{s:Shared}
theorem uU{a:Addr}{vs:List Value}{ss:List Str}{n:Nat}{P:PySem.Fin->Shared->Prop}(ho:s.heap.get? a=some (seqObj "list" vs.toArray n))(hS:StrsAre vs ss)(h64:vs.length<64)
  (h:∀ (out:Array Value) (ss':List Str),StrsAre out.toList ss'->ss'.Perm ss->sortedS ss'=true->P (.done (.ret .none)) { s with heap:=sortedHeap s.heap a vs out }):wpAny (model prog w) A (Builtin.«list.sort» ⟨[.ref a],[]⟩) P E s:=by
 refine list_sort_treeK strKind_oneLt ho hS.keysOf (λv₁ v₂ rest e=>keyKind_strs (by rw[<-e];exact hS)) h64 λst' hp hs=>?_
 obtain⟨ss',h1,h2,h3⟩:=sorted_out_str hS hp hs;exact h _ ss' h1 h2 h3
end
def mO:List Key->Option (List Str)
 |[]=>some []
 |.inr n::ks=>(mO ks).map (n::·)
 |.inl _::_=>none
theorem qu:∀ {ks:List Key}{ns:List Str},mO ks=some ns->ns.length=ks.length
 |[],ns,e=>by cases e;rfl
 |.inr n::ks,ns,e=>by
  simp only[mO,ZbG] at e;obtain⟨ms,e,rfl⟩:=e;simp[qu e]
 |.inl _::_,ns,e=>by cases e
theorem qw{P:Program}{w:World}:∀ {ks:List Key}{ns:List Str}{vs:List Value},mO ks=some ns->vs.length=ks.length->(∀ (j:Nat) v,vs[j]?=some v->∃ k,ks[j]?=some k/\(bR P w).is k v=true)->StrsAre vs ns
 |[],ns,vs,e,hl,h=>by
  cases e;cases vs with
  |nil=>exact .nil
  |cons v vs=>cases hl
 |.inr n::ks,ns,vs,e,hl,h=>by
  simp only[mO,ZbG] at e;obtain⟨ms,e,rfl⟩:=e;cases vs with
  |nil=>cases hl
  |cons v vs=>
   obtain⟨k,e0,hk⟩:=h 0 v rfl;cases e0;obtain⟨t,rfl⟩:RelV (kV (.inr n)) v:=xQ hk;exact .cons n t (qw (P:=P) (w:=w) e (by simpa using hl) λj v hv=>h (j+1) v hv)
 |.inl _::_,ns,vs,e,hl,h=>by cases e
def FJ:List V->Hp->VK->Prop:=λxs H Q=>∃ p kvs ns,xs=[.ref p]/\Rd H p (.dK kvs)/\mO (kvs.map (·.1))=some ns/\ns.length<64/\∀ l,H l=none->Q (.ref l) (upd H l (.lst ((qp ns).map V.str)))
section
variable{X:Cx}
theorem vH(hc:X.calm=true):oE X (.builtin "sorted") FJ:=by
 intro pins s σ H xs us Q I rv h;obtain⟨p,kvs,ns,rfl,e,hk,h64,q⟩:=h;obtain⟨u,rfl,ru⟩:=rv.one;cases ru;obtain⟨z,hd,vs,rel,dd⟩:=wj I.hok e;obtain⟨o,es,ep,d1,d2,d3,d4⟩:=dd;have hl:=rel.length;have hn:ns.length=kvs.length:=by have:=qu hk;simpa using this
 refine Calls.call_function_entry kind_sorted plain_sorted entry_sorted (args_sorted1 _) ?_;unfold Builtin.«sorted»;refine Zak (m:=checkCount "sorted" 1 1 _) (ZaL ?_);refine Zak (PySem.W.kdu_collect (PySem.W.kdl_dict (knd:=bR X.prog X.w) (kvs:=vs) (ep:=ep) hd) (I.ok.hd hc) ⟨o,es,d1,d2,d3,d4⟩ (by omega) λh' tk acc hold hacc=>?_)
 have hla:acc.toList.length=vs.length:=by rw[Za6];exact hacc.1
 have hia:StrsAre acc.toList ns:=qw (P:=X.prog) (w:=X.w) hk (by rw[hla,List.length_map,hl]) λj v hv=>by
  obtain⟨k,x,q1,q2⟩:=hacc.2 j v (by rw[<-ZaN];exact hv)
  refine⟨k,?_,q2⟩;rw[rel.keys,Zac,q1];rfl
 refine Zak (wpAny_newList ?_ (by rw[hla];omega))
 have hoL:(h'.push (seqObj "list" acc.toList.toArray 0)).get? h'.objs.size=some (seqObj "list" acc.toList.toArray 0):=Zax _ rfl;show wpAny _ _ _ _ _ { s with heap:=h'.push (seqObj "list" acc.toList.toArray 0),toks:=tk }
 refine Zak (wpAny_holding (wpAny_call_entry slot_list_sort ⟨_,hoL,rfl⟩ entry_list_sort (uU hoL hia (by omega) λout ns' a1 a2 a3=>⟨_,rfl,?_⟩) (args_list_sort _)))
 refine ZaL ⟨_,rfl,?_⟩;obtain⟨e',he⟩:=sortedHeap_at (out:=out) hoL;have en:ns'=qp ns:=yd a2 a3;subst en;have I1:Inv X pins σ H { s with heap:=h',toks:=tk }:=I.kept hold;have fresh:H h'.objs.size=none:=I1.hok.fresh (Zag _);refine⟨.ref h'.objs.size,upd H h'.objs.size (.lst ((qp ns).map V.str)),I1.laid (t':=tk) (λb o=>xR) (Zag _) ⟨?_,out.toList,e',qt a1,by rw[Array.toArray_toList];exact he⟩,rfl,q _ fresh⟩
 rw[List.length_map,(j0 ns).length_eq];exact ZaQ (ZaF h64) (by decide)
end
namespace MP
theorem bQ.FN{K:Frag}{F:Hp}:∀ ns:List Str,bQ K F (ns.map V.str) (ns.map PV.str)
 |[]=>.nil
 |n::ns=>(bQ.FN ns).cons .str
def qx:PV->Option (Res PV)
 |.dk l=>match mO (l.map (·.1)) with
  |some ns=>if ns.length<64 then some (.ok (.lst ((qp ns).map .str))) else none
  |none=>none
 |_=>none
section
variable{K:Frag}{C:Cg}{P:Program}
theorem Kl:R1O K C (aD K) FJ qx:=by
 intro F H x a res Q s ha e P
 match a,e with
 |.dk l,e=>
  obtain⟨_,ad,rfl,xs,h1,h2,h3⟩:=ha;replace e:(match mO (l.map (·.1)) with
   |some ns=>if ns.length<64 then some (Res.ok (PV.lst ((qp ns).map .str))) else none
   |none=>none)=some res:=e
  cases h:mO (l.map (·.1)) with
  |none=>rw[h] at e;cases e
  |some ns=>
   rw[h] at e;have e:(if ns.length<64 then some (Res.ok (PV.lst ((qp ns).map .str))) else none)=some res:=e;split at e
   ·rename_i h64;cases e;exact⟨ad,xs,ns,rfl,h1,by rw[h2];exact h,h64,λl' hl=>P l' F _ (Up.Hf s hl) hl (s.free hl) ⟨_,aK,bQ.FN _⟩⟩
   ·cases e
end
end MP
def Dh(tl:TE):TE:=λσ H Q=>tl σ H λx H1=>∃ a kvs,x=.ref a/\H1 a=some (.dK kvs)/\∀ raw,Q x (upd H1 a (.frz raw (.dK kvs)))
theorem Aa{X:Cx}{o:Expr}{tl:TE}(hl:PE X o tl):PE X o (Dh tl):=by
 intro pins s σ H Q I h;refine thn (hl pins s σ H _ I h) ?_;rintro u s1 ⟨x,H1,I1,rx,q1⟩;obtain⟨a,kvs,rfl,ha,q⟩:=q1;obtain⟨raw,_,I2⟩:=I1.hold ha trivial;exact⟨.ref a,_,I2,rx,q raw⟩
namespace MP
section
variable{K:Frag}{C:Cg}{te:TE}{F F2 H H1:Hp}{f:Fn PV}
theorem uV{a:Addr}{xs:List (Key×V)}{l:List (Key×PV)}(sF:aR F H)(u:Up F H F2 H1)(ha:H a=none)(fa:F2 a=some (.dK xs))(hl:xs.map (·.1)=l.map (·.1))(hr:∀ (j:Nat) x p,xs[j]?=some x->l[j]?=some p->Rep K F2 x.2 p.2)(raw:Obj) :
  Up F H (upd F2 a (.frz raw (.dK xs))) (upd H1 a (.frz raw (.dK xs)))/\ItR K (Itp a raw xs) (upd F2 a (.frz raw (.dK xs))) (mF l):=by
 have nF:∀ {b o},F b=some o->b≠a:=λ{b o} e z=>by subst z;rw[sF b o e] at ha;cases ha
 have w:Sw F2 (upd F2 a (.frz raw (.dK xs))) a (.dK xs):=⟨λb hb=>aq hb,.inl fa,.inr ⟨raw,aK⟩,trivial⟩;have len:xs.length=l.length:=by have:=ZbJ List.length hl;simpa using this
 refine⟨⟨λb o e=>?_,λb o e=>?_,λb o e=>?_,λb o e=>?_⟩,⟨λF' H' s s'=>?_,λj F' H' hj s s'=>?_,λj F' H' x H'' hj s s' y=>?_⟩⟩
 ·rw[aq (nF e)];exact u.ff b o e
 ·rw[aq (λz=>by subst z;rw[ha] at e;cases e)];exact u.hh b o e
 ·by_cases hb:b=a
  ·subst hb;exact .inr (.inl ha)
  ·rw[aq hb] at e;exact u.fr b o e
 ·by_cases hb:b=a
  ·subst hb;rw[aK] at e ⊢;exact e
  ·rw[aq hb] at e ⊢;exact u.fh b o e
 ·exact⟨s' _ _ (s _ _ aK),by unfold mF;rw[List.length_map];exact len.symm⟩
 ·refine⟨s' _ _ (s _ _ aK),?_⟩;unfold mF at hj;rw[List.length_map] at hj;omega
 ·obtain⟨p,kv,hp,hkv,rfl,rfl⟩:=y;have hl2:(l.map (·.1))[j]?=some kv.1:=by rw[<-hl,Zac,hkv];rfl
  rw[Zac] at hl2;cases q:l[j]? with
  |none=>rw[q] at hl2;cases hl2
  |some z=>
   rw[q] at hl2;have ew:z.1=kv.1:=Zad hl2;have un:=Up.new (o:=.tup [kV kv.1,kv.2]) s' hp;refine⟨_,.tup [CP z.1,z.2],un,?_,.tup aK rfl λn x p' hx hp'=>?_⟩
   ·unfold mF;rw[Zac,q];rfl
   ·match n with
    |0=>simp at hx hp';subst hx hp';rw[ew];exact Fl
    |1=>simp at hx hp';subst hx hp';exact((hr j _ _ hkv q).sw w).up (s.trans un.ff)
    |n+2=>simp at hx
theorem Hv(h:MD K C te f):MI K C (CV (Dh te)) (m1 mG f):=by
 intro F H σ ρ R' r R e P;rcases b8 e with⟨z,e1,rfl⟩|⟨p,e1,hk⟩
 ·exact h F H σ ρ _ _ R e1 P
 match p,hk with
 |.dk l,hk=>
  cases hk;refine h F H σ ρ _ _ R e1 λv F1 H1 S u d n=>?_;have rep:=uE d u.fh;have up:=EY u n;obtain⟨T,a,xs,rfl,ha,Sa,_⟩:=d.xU;cases rep with
  |@dk _ ys _ hd hl hr=>
   have fa:xN F1 H1 S a=some (.dK xs):=by rw[kO (.inl Sa)];exact ha
   have ey:ys=xs:=by
    rcases hd with hd|⟨o,hd⟩<;>rw[fa] at hd<;>cases hd;rfl
   subst ey;refine⟨a,ys,rfl,ha,λraw=>?_⟩;obtain⟨u3,it⟩:=uV R.rb.sub up (n a Sa).1 fa hl hr raw;exact⟨a,raw,ys,rfl,aK,P _ _ _ u3 it⟩
theorem Hw(h:MO K C te f):MI K C (CV (Dh te)) (m1 mG f):=by
 intro F H σ ρ R' r R e P;rcases b8 e with⟨z,e1,rfl⟩|⟨p,e1,hk⟩
 ·exact h F H σ ρ _ _ R e1 P
 match p,hk with
 |.dk l,hk=>
  cases hk;refine h F H σ ρ _ _ R e1 λa F1 H1 u n1 n2 ow=>?_;obtain⟨xs,ha,hl,hr⟩:=ow;have s2:aR F1 (upd F1 a (.dK xs)):=λb o e=>by rw[aq (λz=>by subst z;rw[n2] at e;cases e)];exact e
  have up:Up F H (upd F1 a (.dK xs)) H1:=⟨u.ff.trans s2,u.hh,λb o e=>by
   by_cases hb:b=a
   ·subst hb;exact .inr (.inl n1)
   ·rw[aq hb] at e;exact u.fr b o e,λb o e=>by
   by_cases hb:b=a
   ·subst hb;rw[aK] at e;cases e;exact ha
   ·rw[aq hb] at e;exact u.fh b o e⟩
  refine⟨a,xs,rfl,ha,λraw=>?_⟩;obtain⟨u3,it⟩:=uV R.rb.sub up n1 aK hl (λj x p e1 e2=>(hr j x p e1 e2).up s2) raw;exact⟨a,raw,xs,rfl,aK,P _ _ _ u3 it⟩
end
end MP
end L2
namespace L2.MP
open PySem PySem.Spec PyProof.Rows
open PySem PySem.Spec PyProof.Rows PySem.Calls Builtin Builtin.ObjectAttr
open PySem PySem.Spec PyProof.Rows PySem.Calls Builtin Builtin.ObjectAttr
noncomputable abbrev QL:List Value:=[.type "ValueError",.type "Exception",.type "BaseException",.type "object"]
def QM:List Value->Bool
 |.ref _::r=>QM r
 |l=>l==QL
def XN(e C:Addr)(d:Option Addr):HO:=.ext λh=>∃ vs:Array Value,h.get? e=some { cls:=.ref C,dict:=d,data:=.fields vs }/\1<vs.size/\vs[1]?=some .none
def XD(dx:Addr)(fs:List (Str×V)):HO:=.ext λh=>fs.length<=1000/\∃ mA,h.Ns1 dx mA/\(∀ f,tW (fs.lookup f) (mA f))/\PySem.Within mA (fs.map (·.1))
noncomputable abbrev THs:=Value->Option Addr->TS
def XRS(K:Frag):Hp->Value->Option Addr->PV->Prop:=λF ev d z=>∃ c l Ca dx xs,z=.exc c l/\ev=.ref Ca/\d=some dx/\XNm K Ca c/\F dx=some (.xd xs)/\xs.map (·.1)=l.map (·.1)/\∀ (j:Nat) x p,xs[j]?=some x->l[j]?=some p->Rep K F x.2 p.2
def spI(Ca:Addr)(fs:List Str):Sp:=λvs H Q _=>∃ e args,vs=.ref e::args/\args.length=fs.length/\H e=some (XN e Ca none) /\
 ∀ dx H',H dx=none->H' e=some (XN e Ca (some dx))->H' dx=some (XD dx (fs.zip args))->(∀ b,b≠e->b≠dx->H' b=H b)->Q .non H'
noncomputable abbrev CE(K:Frag)(E:XK)(io:Addr->Prop)(H0 F0:Hp):Cg:=⟨⟨io,True,H0,F0,E⟩,XRS K⟩
open PySem PySem.Spec PyProof.Rows PySem.Calls PySem.W Builtin Builtin.ObjectAttr
open PySem PySem.Spec PyProof PyProof.Rows
end L2.MP
namespace L2
open PySem PySem.Spec PySem.W PyProof PyProof.Rows
section
variable{α:Type}[Inhabited α]{lt:α->α->Bool}{ps:List α}
def rkG(lt:α->α->Bool)(ps:List α)(i:Nat):Nat:=((List.range ps.length).filter λj=>lt (ps.getD j default) (ps.getD i default)).length
structure GOk(lt:α->α->Bool)(ps:List α):Prop where
 nd:ps.Nodup
 irr:∀ p,lt p p=false
 tr:∀ p q t,lt p q=true->lt q t=true->lt p t=true
 tot:∀ p∈ps,∀ q∈ps,p≠q->lt p q=true\/lt q p=true
theorem rK{i:Nat}(h:i<ps.length):ps.getD i default∈ps:=ZaC (i:=i) (by rw[Zae,Zaa h];rfl)
theorem GOk.inj(o:GOk lt ps){i j:Nat}(hi:i<ps.length)(hj:j<ps.length)(e:ps.getD i default=ps.getD j default):i=j:=by
 have g:∀ i,i<ps.length->ps[i]?=some (ps.getD i default):=λi h=>by rw[Zae,Zaa h];rfl
 exact(List.getElem?_inj hi o.nd).mp (by rw[g i hi,g j hj,e])
theorem GOk.rlt(o:GOk lt ps){i j:Nat}(hi:i<ps.length)(h:lt (ps.getD i default) (ps.getD j default)=true):rkG lt ps i<rkG lt ps j:=by
 unfold rkG;have sub:((List.range ps.length).filter λk=>lt (ps.getD k default) (ps.getD i default)).Sublist ((List.range ps.length).filter λk=>lt (ps.getD k default) (ps.getD j default)):=by
  have e:((List.range ps.length).filter λk=>lt (ps.getD k default) (ps.getD i default))=((List.range ps.length).filter λk=>lt (ps.getD k default) (ps.getD j default)).filter λk=>lt (ps.getD k default) (ps.getD i default):=by
   rw[List.filter_filter];refine List.filter_congr λk _=>?_;cases q:lt (ps.getD k default) (ps.getD i default) with
   |false=>rfl
   |true=>rw[o.tr _ _ _ q h];rfl
  rw[e];exact List.filter_sublist
 refine Nat.lt_of_le_of_ne sub.length_le λe=>?_;have e:=sub.eq_of_length e;have:i∈(List.range ps.length).filter λk=>lt (ps.getD k default) (ps.getD j default):=Zbh.mpr ⟨ZaA.mpr hi,h⟩;rw[<-e] at this;have:=(Zbh.mp this).2;rw[o.irr] at this;cases this
theorem GOk.O8(o:GOk lt ps){i j:Nat}(hi:i<ps.length)(hj:j<ps.length):lt (ps.getD i default) (ps.getD j default)=decide (rkG lt ps i<rkG lt ps j):=by
 cases q:lt (ps.getD i default) (ps.getD j default) with
 |true=>exact(Zaz (o.rlt hi q)).symm
 |false=>
  refine(ZaD λz=>?_).symm;by_cases e:ps.getD i default=ps.getD j default
  ·rw[o.inj hi hj e] at z;omega
  ·rcases o.tot _ (rK hi) _ (rK hj) e with w|w
   ·rw[q] at w;cases w
   ·have:=o.rlt hj w;omega
theorem GOk.Su(o:GOk lt ps){i j:Nat}(hi:i<ps.length)(hj:j<ps.length)(e:rkG lt ps i=rkG lt ps j):i=j:=by
 refine o.inj hi hj (Classical.byContradiction λne=>?_);rcases o.tot _ (rK hi) _ (rK hj) ne with w|w
 ·have:=o.rlt hi w;omega
 ·have:=o.rlt hj w;omega
def j5(lt:α->α->Bool)(ps:List α):List Nat:=(List.range ps.length).mergeSort λi j=>decide (rkG lt ps i<=rkG lt ps j)
theorem j6(lt:α->α->Bool)(ps:List α):(j5 lt ps).Perm (List.range ps.length):=List.mergeSort_perm _ _
theorem kZ:∀ i∈j5 lt ps,i<ps.length:=λi hi=>ZaA.mp ((j6 lt ps).mem_iff.mp hi)
theorem Ab(lt:α->α->Bool)(ps:List α):(j5 lt ps).length=ps.length:=by rw[(j6 lt ps).length_eq,List.length_range]
theorem GOk.ord(o:GOk lt ps):(j5 lt ps).Pairwise λi j=>rkG lt ps i<rkG lt ps j:=by
 have h:=List.pairwise_mergeSort (le:=λi j=>decide (rkG lt ps i<=rkG lt ps j)) (λa b c h1 h2=>by simp at h1 h2 ⊢;omega) (λa b=>by simp;omega) (List.range ps.length)
 have nd:(j5 lt ps).Nodup:=(j6 lt ps).nodup_iff.mpr List.nodup_range;refine(h.and nd).imp_of_mem λ{i j} hi hj q=>?_;have h1:rkG lt ps i<=rkG lt ps j:=by simpa using q.1
 exact Nat.lt_of_le_of_ne h1 λe=>q.2 (o.Su (kZ i hi) (kZ j hj) e)
theorem GOk.Nf(o:GOk lt ps){l:List Nat}(p:l.Perm (List.range ps.length))(s:l.Pairwise λi j=>rkG lt ps i<rkG lt ps j):l=j5 lt ps:=
 List.Perm.eq_of_pairwise (le:=λi j=>rkG lt ps i<rkG lt ps j) (λi j _ _ h1 h2=>by omega) s o.ord (p.trans (j6 lt ps).symm)
end
section
variable{prog:Program}{w:World}{A:Around}{E:Value->Shared->Prop}{s:Shared}{α:Type}[Inhabited α]{lt:α->α->Bool}{ps:List α}
theorem Hy{ks vs:List Value}{κ:SortKind}(ok:GOk lt ps)(hk:ks.length=ps.length)(hl:vs.length=ps.length)(kinj:∀ i j,i<ps.length->j<ps.length->ks.getD i .none=ks.getD j .none->i=j)
  (hc:∀ i j,i<ps.length->j<ps.length->∀ (E:Value->Shared->Prop) (Q:Bool->Shared->Prop),Q (lt (ps.getD i default) (ps.getD j default)) s->wpAny (model prog w) A (keyLt' κ (ks.getD i .none) (ks.getD j .none)) Q E s) :
  wpAny (model prog w) A (sortRuns'.run (SortSt.mk' κ (ks.toArray.zip vs.toArray) #[] 7 none)) (λr s'=>s'=s/\failedOf r.2=none/\(arrOf r.2).map (·.2)=List.toArray ((j5 lt ps).map λi=>vs.getD i .none)/\(arrOf r.2).size=vs.length) E s:=by
 have gk:∀ i,i<ps.length->ks[i]?=some (ks.getD i .none):=λi h=>by rw[Zae,Zaa (by omega)];rfl
 have gv:∀ i,i<ps.length->vs[i]?=some (vs.getD i .none):=λi h=>by rw[Zae,Zaa (by omega)];rfl
 let ix:Keyed->Nat:=λx=>@dite _ (∃ i,i<ps.length/\ks.getD i .none=x.1) (Classical.propDecidable _) (λh=>Classical.choose h) λ_=>0
 have ixe:∀ i,i<ps.length->ix (ks.getD i .none,vs.getD i .none)=i:=λi hi=>by
  have hx:∃ j,j<ps.length/\ks.getD j .none=(ks.getD i .none,vs.getD i .none).1:=⟨i,hi,rfl⟩;show@dite _ _ (Classical.propDecidable _) _ _=i
  rw[@dif_pos _ (Classical.propDecidable _) hx];have:=Classical.choose_spec hx;exact kinj _ i this.1 hi this.2
 have zl:(ks.toArray.zip vs.toArray).toList=(List.range ps.length).map λi=>(ks.getD i .none,vs.getD i .none):=by
  rw[Array.toList_zip];apply Zbs
  intro i;rw[Zac];by_cases h:i<ps.length
  ·rw[Za3 h,show(ks.toArray.toList.zip vs.toArray.toList)[i]?=some (ks.getD i .none,vs.getD i .none) from List.getElem?_zip_eq_some.mpr ⟨by simpa using gk i h,by simpa using gv i h⟩];rfl
  ·rw[ZaH (by simp;omega),ZaH (by simp;omega)];rfl
 have mz:∀ x∈(ks.toArray.zip vs.toArray).toList,∃ i,i<ps.length/\x=(ks.getD i .none,vs.getD i .none):=λx hx=>by
  rw[zl] at hx;obtain⟨i,hi,e⟩:=Za1.mp hx;exact⟨i,ZaA.mp hi,e.symm⟩
 have hc:TS.Cmp prog w A s κ (λx=>∃ i,i<ps.length/\x=(ks.getD i .none,vs.getD i .none)) (λx=>rkG lt ps (ix x)):=by
  rintro x y ⟨i,hi,rfl⟩ ⟨j,hj,rfl⟩ E Q q;have q:Q (decide (rkG lt ps (ix (ks.getD i .none,vs.getD i .none))<rkG lt ps (ix (ks.getD j .none,vs.getD j .none)))) s:=q;rw[ixe i hi,ixe j hj,<-ok.O8 (by omega) (by omega)] at q
  exact hc i j hi hj E Q q
 have un:TS.Unl (λx=>rkG lt ps (ix x)) (ks.toArray.zip vs.toArray).toList:=by
  rw[zl];unfold TS.Unl;rw[List.pairwise_map];refine List.nodup_range.imp_of_mem λ{i j} hi hj ne=>?_;show rkG lt ps (ix (ks.getD i .none,vs.getD i .none))≠rkG lt ps (ix (ks.getD j .none,vs.getD j .none))
  rw[ixe i (ZaA.mp hi),ixe j (ZaA.mp hj)];exact λe=>ne (ok.Su (ZaA.mp hi) (ZaA.mp hj) e)
 have run:=TS.wpS_sortRuns (E:=E) (st:=SortSt.mk' κ (ks.toArray.zip vs.toArray) #[] 7 none) hc rfl rfl rfl mz un (Q:=λ_ st'=>failedOf st'=none/\(arrOf st').map (·.2)=List.toArray ((j5 lt ps).map λi=>vs.getD i .none)/\(arrOf st').size=vs.length) λst' pm ff ss=>?_
 ·exact run
 ·have pl:=Zbf.mp pm;have pl:(arrOf st').toList.Perm (ks.toArray.zip vs.toArray).toList:=pl;have back:(arrOf st').toList=((arrOf st').toList.map ix).map λi=>(ks.getD i .none,vs.getD i .none):=by
   rw[Zbo];refine((Za2 λx hx=>?_).trans (List.map_id _)).symm;obtain⟨i,hi,rfl⟩:=mz x (pl.mem_iff.mp hx);show(ks.getD (ix _) .none,vs.getD (ix _) .none)=_
   rw[ixe i hi];rfl
  have ip:((arrOf st').toList.map ix).Perm (List.range ps.length):=by
   refine(pl.map ix).trans ?_;rw[zl,Zbo];exact List.Perm.of_eq ((Za2 λi hi=>ixe i (ZaA.mp hi)).trans (List.map_id _))
  have is:((arrOf st').toList.map ix).Pairwise λi j=>rkG lt ps i<rkG lt ps j:=by
   rw[List.pairwise_map];exact ss
  have eo:=ok.Nf ip is;refine⟨ff,?_,?_⟩
  ·apply Array.toList_inj.mp
   rw[Array.toList_map,back,Zbo,<-eo];rfl
  ·rw[<-Za6,pl.length_eq,zl,List.length_map,List.length_range,hl]
end
noncomputable abbrev Tk:=Int×List Int
def gB(p q:Tk):Bool:=if p.1=q.1 then ltI p.2 q.2 else decide (p.1<q.1)
theorem Km(p:Tk):gB p p=false:=by unfold gB;rw[Zah rfl];exact ph _
theorem Ng(p q t:Tk)(h1:gB p q=true)(h2:gB q t=true):gB p t=true:=by
 unfold gB at h1 h2 ⊢;by_cases e1:p.1=q.1
 ·rw[Zah e1] at h1;by_cases e2:q.1=t.1
  ·rw[Zah e2] at h2;rw[Zah (e1.trans e2)];exact wD h1 h2
  ·rw[Zai e2] at h2;rw[Zai (λz=>e2 (e1.symm.trans z)),e1];exact h2
 ·rw[Zai e1] at h1;have h1:=ZaT h1;by_cases e2:q.1=t.1
  ·rw[Zai (λz=>e1 (z.trans e2.symm)),<-e2];exact Zaz h1
  ·rw[Zai e2] at h2;have h2:=ZaT h2;rw[Zai (by omega)]
   exact Zaz (by omega)
theorem Ko{p q:Tk}(hl:p.1=q.1->p.2.length=q.2.length)(h:p≠q):gB p q=true\/gB q p=true:=by
 unfold gB;by_cases e:p.1=q.1
 ·rw[Zah e,Zah e.symm];exact wF (hl e) λz=>h (Prod.ext e z)
 ·rw[Zai e,Zai (Zbp e)];rcases Int.lt_or_gt_of_ne e with q|q
  ·exact .inl (Zaz q)
  ·exact .inr (Zaz q)
theorem O9{ps:List Tk}(nd:ps.Nodup)(hl:∀ p∈ps,∀ q∈ps,p.1=q.1->p.2.length=q.2.length):GOk gB ps:=
 ⟨nd,Km,Ng,λp hp q hq h=>Ko (hl p hp q hq) h⟩
def vI(h:Heap)(v:Value)(p:Tk):Prop:=∃ a o t b n its,v=.ref a/\h.get? a=some o/\o.cls=.type "tuple"/\o.data=.seq (List.toArray [.int p.1 t,.ref b]) n/\IsTup h b (List.toArray its)/\IntsAre its p.2
section
variable{prog:Program}{w:World}{A:Around}{E:Value->Shared->Prop}{s:Shared}{v u:Value}{p q:Tk}
theorem Ac:∀ {l m:List Int},l.length=m.length->LtK (l.map .inl) (m.map .inl) (ltI l m)
 |[],[],_=>.nn
 |a::l,b::m,h=>by
  rw[Zal,Zal];unfold ltI;by_cases e:a=b
  ·subst e;rw[Zah rfl];exact .eq _ (Ac (by simpa using h))
  ·rw[Zai e];exact .int _ _ e
theorem rM:∀ {ys:List Value}{ns:List Int},IntsAre ys ns->Vals ((ns.map .inl:List Key).map kV) ys
 |_,_,.nil=>.nil
 |_,_,.cons n t h=>.cons ⟨t,rfl⟩ (rM h)
theorem wJ{A:Around}{s:Shared}{ys zs:List Value}{ns ms:List Int}(hy:IntsAre ys ns)(hz:IntsAre zs ms)(j:Nat)(h1:j<ys.toArray.size)(h2:j<zs.toArray.size):SeqAt.EqAt A s ys.toArray[j] zs.toArray[j] (ns.getD j 0==ms.getD j 0):=by
 have get:∀ {ys:List Value}{ns:List Int},IntsAre ys ns->∀ (j:Nat) (h:j<ys.length),∃ t,ys[j]=.int (ns.getD j 0) t:=by
  intro ys ns h;induction h with
  |nil=>intro j h;simp at h
  |cons n t h ih=>
   intro j hj;cases j with
   |zero=>exact⟨t,rfl⟩
   |succ j=>exact ih j (by simpa using hj)
 obtain⟨t,e⟩:=get hy j (by simpa using h1)
 obtain⟨t',e'⟩:=get hz j (by simpa using h2)
 have e:ys.toArray[j]=.int (ns.getD j 0) t:=by simpa using e
 have e':zs.toArray[j]=.int (ms.getD j 0) t':=by simpa using e'
 rw[e,e'];exact SeqAt.EqAt.int_int _ _ _ _
theorem vI.lt(hp:vI s.heap v p)(hq:vI s.heap u q)(hl:p.1=q.1->p.2.length=q.2.length)(hu:A.units<cLine){Q:Bool->Shared->Prop}(h:Q (gB p q) s):wpAny (model prog w) A (keyLt' (tuples' true) v u) Q E s:=by
 obtain⟨a,o,t,b,n,ys,rfl,e1,e2,e3,e4,e5⟩:=hp;obtain⟨a',o',t',b',n',zs,rfl,f1,f2,f3,f4,f5⟩:=hq;refine kat_lt e1 e3 f1 f3 (kat_cons (wpAny_eqBool_int ?_));unfold gB at h;by_cases c:p.1=q.1
 ·rw[beq_iff_eq.mpr c];rw[Zah c] at h;refine kat_yes (kat_cons ?_);have ll:=hl c;by_cases d:p.2=q.2
  ·have ee:SeqAt.EqAt A s (.ref b) (.ref b') true:=by
    by_cases hb:b=b'
    ·subst hb;exact SeqAt.EqAt.same _
    ·have rc:=SeqAt.RcAt.tuples (A:=A) (e:=λj=>p.2.getD j 0==q.2.getD j 0) e4 f4 hu λj h1 h2=>wJ e5 f5 j h1 h2;rw[show((List.range (min ys.toArray.size zs.toArray.size)).all (λj=>p.2.getD j 0==q.2.getD j 0)&&ys.toArray.size==zs.toArray.size)=true by
      rw[Bool.and_eq_true];refine⟨Zbd.mpr λj _=>by rw[d];exact beq_self_eq_true _,?_⟩
      rw[List.size_toArray,List.size_toArray,mL e5,mL f5,d];exact beq_self_eq_true _] at rc
     exact .of_refs hb rc
   refine ee _ _ _ _ (kat_yes (kat_nil ?_));rw[d,ph] at h;exact h
  ·have hb:b≠b':=λz=>d (by
    subst z;obtain⟨o1,g1,_,n1,g2⟩:=e4;obtain⟨o2,k1,_,n2,k2⟩:=f4;rw[g1] at k1;cases k1;rw[g2] at k2;injection k2 with z1 _
    have z1:=ZbJ Array.toList z1;simp only at z1;subst z1;exact rJ e5 f5)
   have rc:=SeqAt.RcAt.tuples (A:=A) (e:=λj=>p.2.getD j 0==q.2.getD j 0) e4 f4 hu λj h1 h2=>wJ e5 f5 j h1 h2;rw[show((List.range (min ys.toArray.size zs.toArray.size)).all (λj=>p.2.getD j 0==q.2.getD j 0)&&ys.toArray.size==zs.toArray.size)=false by
    refine Bool.eq_false_iff.mpr λz=>d ?_;rw[Bool.and_eq_true] at z;have z:=Zbd.mp z.1;rw[List.size_toArray,List.size_toArray,mL e5,mL f5,ll,Nat.min_self] at z;apply Zbs
    intro j;by_cases hj:j<q.2.length
    ·have:=z j (ZaA.mpr hj);have:=beq_iff_eq.mp this;rw[Zae,Zae,Zaa hj,Zaa (show j<p.2.length by omega)] at this
     rw[Zaa hj,Zaa (show j<p.2.length by omega)]
     exact ZbJ some this
    ·rw[ZaH (by omega),ZaH (by omega)]] at rc
   refine SeqAt.EqAt.of_refs hb rc _ _ _ _ (kat_no ?_);rw[show(true&&0+1==0)=false by rfl]
   exact kat_one _ _ (De e4 f4 (rM e5) (rM f5) (Ac ll) hu h)
 ·rw[beq_eq_false_iff_ne.mpr c];rw[Zai c] at h;refine kat_no ?_;show wpAny _ _ (oneLt' true _ _) _ _ _
  exact oneLt_int h
end
noncomputable abbrev Cx.inK(X:Cx):Cx:={ X with A:=X.A.in1.in1,xe:=λ_ _=>False }
section
variable{X:Cx}{pins:List (Addr×Obj)}{σ:St}{H:Hp}{s:Shared}{h':Heap}
theorem Cx.Ok.inK(o:X.Ok):X.inK.Ok:=⟨o.mod,o.kind,o.glob,o.blt,o.above,o.inj,o.has,o.cab,o.hd,o.frames,o.stk,o.exf,o.bs,o.bsz,o.noex,o.exfs,o.pK,o.frf⟩
theorem Cx.Ok.QQ(o:X.inK.Ok):X.Ok:=⟨o.mod,o.kind,o.glob,o.blt,o.above,o.inj,o.has,o.cab,o.hd,o.frames,o.stk,o.exf,o.bs,o.bsz,o.noex,o.exfs,o.pK,o.frf⟩
theorem Inv.inK(I:Inv X pins σ H s):Inv X.inK pins σ H s:=⟨I.ok.inK,I.os,I.bare,I.base,I.loc,I.cell,I.free,I.freeC,I.pin,I.hok,I.len⟩
theorem Inv.QQ(I:Inv X.inK pins σ H s):Inv X pins σ H s:=⟨I.ok.QQ,I.os,I.bare,I.base,I.loc,I.cell,I.free,I.freeC,I.pin,I.hok,I.len⟩
theorem Inv.adopt{t':Nat}{a:Addr}{o:HO}(I:Inv X pins σ H s)(f:oU X pins H a)(k:∀ b o,b≠a->s.heap.get? b=some o->h'.get? b=some o)(new:dg X.prog X.w (upd H a o) h' a o):Inv X pins σ (upd H a o) { s with heap:=h',toks:=t' }:=by
 have hn:=f.1;have nc:∀ {b:Addr},b ∉ [a]->b≠a:=λh z=>h (by simp[z])
 refine I.step (g':=s.gens) (d':=s.drawn) (ch:=[a]) (λb hb=>?_) (λb o _ _ hc e _=>k b o (nc hc) e) (λb o _ _ hc e _=>⟨o.slots,k b o (nc hc) e⟩) (λb ob hc e n=>by rw[aq (nc hc)];exact n)
  (λb o hc e=>⟨o,k b o (nc hc) e⟩) (λb xs e=>by rw[aq (aY e hn)];exact e) (λb ob u e=>by rw[aq (aY e hn)];exact e) (λb ps e=>⟨#[],by rw[aq (aY e hn),e];simp⟩) (λm hm=>?_) (λb u e=>?_) I.bare
 ·have e:b=a:=by simpa using hb
  subst e;exact⟨f.2.2.2.1,f.2.1,f.2.2.2.2.1,f.2.2.2.2.2⟩
 ·obtain⟨o,es,ep,ho,r⟩:=hm;exact⟨o,es,ep,k _ o (λz=>f.2.1 z.symm) ho,r⟩
 ·by_cases hb:b=a
  ·subst hb;rw[aK] at e;cases e;exact new
  ·rw[aq hb] at e;refine(I.hok b u e).stay (λc v hc q=>k c v ?_ q) (λc q=>by rw[aq (aY q hn)];exact q) λc xs q=>by rw[aq (aY q hn)];exact q
   rcases hc with z|z
   ·rw[z];exact hb
   ·exact aY z hn
end
def ye(X:Cx)(pins:List (Addr×Obj))(f:Value)(r:List V->Hp->VK->Prop):Prop:=
 ∀ (pins2:List (Addr×Obj)) (s:Shared) (σ:St) (H:Hp) (xs:List V) (us:List Value) (Q:VK),(∀ p∈pins,p∈pins2)->Inv X pins2 σ H s->Vals xs us->r xs H Q->wpAny (model X.prog X.w) X.A (call f us) (EP X pins2 σ Q) X.xe s
def wK(rk:List V->Hp->VK->Prop):List V->List V->Hp->(List V->Hp->Prop)->Prop
 |[],ks,H,R=>R ks H
 |x::xs,ks,H,R=>rk [x] H λk H1=>wK rk xs (ks++[k]) H1 R
def TkV(H:Hp)(k:V)(p:Tk):Prop:=∃ a b,k=.ref a/\H a=some (.tup [.int p.1,.ref b])/\H b=some (.tup (p.2.map V.int))
section
variable{X:Cx}{pins:List (Addr×Obj)}{σ:St}{H:Hp}{s:Shared}{f:Value}{rk:List V->Hp->VK->Prop}{kS a:Addr}
structure Ad(X:Cx)(pins:List (Addr×Obj))(kS a:Addr):Prop where
 ne:kS≠a
 k:∀ H:Hp,H kS=none->oU X pins H kS
 a:∀ H:Hp,H a=none->oU X pins H a
theorem rR{xs:Array Value}{n:Nat}(v:Option Value):(seqObj "list" xs n).data≠.cell v:=λz=>by cases z
theorem Ad.pin(M:Ad X pins kS a){ks as:Array Value}{e e1:Nat}(I:Inv X pins σ H s)(h1:s.heap.get? kS=some (seqObj "list" ks e))(h2:s.heap.get? a=some (seqObj "list" as e1))(n1:H kS=none)(n2:H a=none) :
  Inv X (pins++[(kS,seqObj "list" ks e),(a,seqObj "list" as e1)]) σ H s:=
 I.sV λp hp=>(Zab.mp hp).elim (λz=>I.pin p (Zaq _ z)) λz=>by
  rcases ZaW.mp z with rfl|z
  ·obtain⟨f0,f1,f2,_⟩:=M.k H n1;exact⟨h1,f0,f1,f2,rR⟩
  ·rw[Zaj.mp z];obtain⟨f0,f1,f2,_⟩:=M.a H n2;exact⟨h2,f0,f1,f2,rR⟩
theorem TkV.at{k:V}{p:Tk}{u:Value}(I:Inv X pins σ H s)(h:TkV H k p)(r:RelV k u):vI s.heap u p:=by
 obtain⟨a,b,rfl,h1,h2⟩:=h;cases r;obtain⟨i1,v1,⟨o,w1,w2,n,w3⟩,_⟩:=I.tuple (SqT.of (K:=X.K) h1);obtain⟨i2,v2,t2,_⟩:=I.tuple (SqT.of (K:=X.K) h2);cases v1 with
 |cons r1 v1=>
  cases v1 with
  |cons r2 v1=>
   cases v1;obtain⟨t,rfl⟩:=r1;cases r2;exact⟨a,o,t,b,n,i2,rfl,w1,w2,w3,t2,MP.uy v2⟩
theorem Hz(hk:ye X.inK pins f rk)(M:Ad X pins kS a){vs:List Value}{xs:List V}{R:List V->Hp->Prop}{e1:Nat}(rv:Vals xs vs)(hz:vs.length<sizeLine)(h1:s.heap.get? kS=some (seqObj "list" #[] 0))(h2:s.heap.get? a=some (seqObj "list" #[] e1))(n1:H kS=none)(n2:H a=none)
  (I:Inv X pins σ H s)(h:wK rk xs [] H R){b:Bool}{P:PySem.Fin->Shared->Prop}{E:Value->Shared->Prop}
  (done:∀ (ks:List V) (kA:Array Value) (e:Nat) (H':Hp) (s':Shared),Inv X pins σ H' s'->s'.heap.get? kS=some (seqObj "list" kA e)->s'.heap.get? a=some (seqObj "list" #[] e1)->H' kS=none->H' a=none->Vals ks kA.toList->ks.length=vs.length->R ks H' ->
   wpAny (model X.prog X.w) X.A.in1.in1 (ksk_end a b vs.toArray e1 (.ref kS) kA) P E s') :
  wpAny (model X.prog X.w) X.A.in1.in1 (ksk_rest a f b vs.toArray e1 (.ref kS)) P E s:=by
 unfold ksk_rest;refine Zak (wpAny_rule ?_);rw[List.forIn_toArray];refine Zak (ksk_fold (λi s'=>∃ (ks:List V) (kA:Array Value) (e:Nat) (H':Hp),Inv X (pins++[(kS,seqObj "list" kA e),(a,seqObj "list" #[] e1)]) σ H' s'/\Vals ks kA.toList/\ks.length=i/\wK rk (xs.drop i) ks H' R) vs 0 s
  ⟨[],#[],0,H,M.pin I h1 h2 n1 n2,.nil,rfl,h⟩ ?step ?fin)
 case step=>
  rintro j x s' hx ⟨ks,kA,e,H',I',vk,hl,hr⟩;simp only[Nat.zero_add] at hl hr ⊢;have hj:j<vs.length:=(Zay.mp hx).1;have hjx:j<xs.length:=by rw[rv.length];exact hj
  rw[ZaR hjx] at hr;have hr:rk [xs[j]] H' λk H1=>wK rk (xs.drop (j+1)) (ks++[k]) H1 R:=hr;have rx:RelV xs[j] x:=by
   obtain⟨u,h1,h2⟩:=rv.get (Zaa hjx);rw[hx] at h1;cases h1;exact h2
  have kz:kA.size=j:=by
   rw[<-hl,vk.length];simp
  refine Zak (wpAny_attempt (Za9 (hk _ s' σ H' [xs[j]] [x] _ (λp hp=>List.mem_append_left _ hp) I'.inK (.cons rx .nil) hr) (λv s'' he=>?_) λ_ _ hF=>hF.elim));obtain⟨k,H2,I2,rk2,hr2⟩:=he;have I2:=I2.QQ;have nk:=I2.pin (kS,seqObj "list" kA e) (Zaq _ (Zaq _ (.head _)));have na:=I2.pin (a,seqObj "list" #[] e1) (Zaq _ (Zaq _ (.tail _ (.head _))));have s1:=Heap.SameBut.update s''.heap kS (Obj.mapSeq (·.push v));obtain⟨c2,hc2⟩:∃ c2,(s''.heap.update kS (Obj.mapSeq (·.push v))).get? kS=some (seqObj "list" (kA.push v) c2):=⟨_,get?_update_seq nk.1 (·.push v)⟩;refine Zak (listUpdate_at nk.1 rfl ?_ (by rw[kz];exact ZaF (ZbN hj hz)) (ZaQ (Nat.le_of_eq (Array.size_push ..)) (by rw[kz];exact Nat.succ_le_succ (ZaF (ZbN hj hz)))))
  refine ZaL ⟨rfl,ks++[k],kA.push v,c2,H2,?_,by rw[Zbn];exact vk.append (.cons rk2 .nil),by rw[List.length_append,hl];rfl,hr2⟩
  have I3:Inv X pins σ H2 { s'' with heap:=s''.heap.update kS (Obj.mapSeq (·.push v)),toks:=s''.toks }:=I2.ji.nH (ch:=[kS]) (λb o hb q=>by rw[s1.2 b (λz=>hb (by simp[z]))];exact q) λb hb=>by rw[Zaj.mp hb];exact M.k H2 nk.2.1
  exact M.pin I3 hc2 ((s1.2 a M.ne.symm).trans na.1) nk.2.1 na.2.1
 case fin=>
  rintro s' ⟨ks,kA,e,H',I',vk,hl,hr⟩;rw[Nat.zero_add] at hl hr;have nk:=I'.pin (kS,seqObj "list" kA e) (Zaq _ (Zaq _ (.head _)));have na:=I'.pin (a,seqObj "list" #[] e1) (Zaq _ (Zaq _ (.tail _ (.head _))));rw[List.drop_eq_nil_of_le (by rw[rv.length];exact Zag _)] at hr
  refine Zak (listItems_at nk.1 rfl ?_);exact done ks kA e H' s' I'.ji nk.1 na.1 nk.2.1 na.2.1 vk hl hr
theorem uW{h:Heap}:∀ {vs:List Value}{ps:List Tk},ps.length=vs.length->(∀ (i:Nat) v p,vs[i]?=some v->ps[i]?=some p->vI h v p)->∃ fs:List Value,KatTups h vs fs/\fs.length=vs.length/\∀ f∈fs,∃ x t,f=.int x t
 |[],_,_,_=>⟨[],.nil,rfl,λ_ h=>nomatch h⟩
 |v::vs,[],e,_=>by cases e
 |v::vs,p::ps,e,hp=>by
  obtain⟨a,o,t,b,n,ys,rfl,e1,e2,e3,_⟩:=hp 0 v p rfl rfl;obtain⟨fs,k,l,z⟩:=uW (vs:=vs) (ps:=ps) (by simpa using e) λi v p h1 h2=>hp (i+1) v p h1 h2
  refine⟨_,.cons e1 e2 e3 rfl k,by simp[l],λf hf=>?_⟩
  rcases ZaW.mp hf with y|y
  ·exact⟨_,_,y⟩
  ·exact z f y
theorem vI.Nf{h:Heap}{v:Value}{p q:Tk}(x:vI h v p)(y:vI h v q):p=q:=by
 obtain⟨a,o,t,b,n,ys,rfl,h1,_,h3,⟨o1,g1,_,n1,g2⟩,h4⟩:=x;obtain⟨a',o',t',b',n',zs,e,k1,_,k3,⟨o2,l1,_,n2,l2⟩,k4⟩:=y;cases e;rw[h1] at k1;cases k1;rw[h3] at k3;injection k3 with e1 _
 have e1:=ZbJ Array.toList e1;simp only at e1;injection e1 with e2 e3
 injection e2 with e4 _
 injection e3 with e5 _
 cases e5;rw[g1] at l1;cases l1;rw[g2] at l2;injection l2 with z1 _
 have z1:=ZbJ Array.toList z1;simp only at z1;subst z1;exact Prod.ext e4 (rJ h4 k4)
theorem Kp{ks vs:List Value}(hk:ks.length=vs.length)(h:vs.length<2):((ks.toArray.zip vs.toArray).map (·.2)).toList=(List.range vs.length).map λi=>vs.getD i .none:=by
 cases vs with
 |nil=>simp
 |cons v l=>
  cases l with
  |nil=>
   cases ks with
   |nil=>cases hk
   |cons k ks=>
    cases ks with
    |nil=>simp[List.range_succ]
    |cons=>simp at hk
  |cons u l=>simp at h;omega
theorem Kq(M:Ad X pins kS a){vs:List Value}{ks xs:List V}{kA:Array Value}{e e1:Nat}{ps:List Tk}(I:Inv X pins σ H s)(h1:s.heap.get? kS=some (seqObj "list" kA e))(h2:s.heap.get? a=some (seqObj "list" #[] e1))(n1:H kS=none)(n2:H a=none)
  (rv:Vals xs vs)(vk:Vals ks kA.toList)(hl:ks.length=vs.length)(hz:vs.length<sizeLine)(hp:ps.length=vs.length)(ht:∀ (i:Nat) k p,ks[i]?=some k->ps[i]?=some p->TkV H k p)(nd:ps.Nodup)(hn:∀ p∈ps,∀ q∈ps,p.1=q.1->p.2.length=q.2.length)(hu:X.A.in1.in1.units<cLine)
  {P:PySem.Fin->Shared->Prop}{E:Value->Shared->Prop}(h:∀ s',Inv X pins σ (upd H a (.lst ((j5 gB ps).map λj=>xs.getD j (.bl false)))) s'->P (.done (.ret .none)) s') :
  wpAny (model X.prog X.w) X.A.in1.in1 (ksk_end a false vs.toArray e1 (.ref kS) kA) P E s:=by
 have kl:kA.toList.length=vs.length:=by rw[<-vk.length];exact hl
 have ks2:kA.size=vs.length:=by rw[<-kl];simp
 have at_:∀ (i:Nat) v p,kA.toList[i]?=some v->ps[i]?=some p->vI s.heap v p:=λi v p e1 e2=>by
  obtain⟨k,f1,f2⟩:=MP.uA vk e1;exact(ht i k p f1 e2).at I f2
 have ok:=O9 nd hn;have gk:∀ i,i<ps.length->kA.toList[i]?=some (kA.toList.getD i .none):=λi hi=>by rw[Zae,Zaa (by omega)];rfl
 have gp:∀ i,i<ps.length->ps[i]?=some (ps.getD i default):=λi hi=>by rw[Zae,Zaa hi];rfl
 have ar:kA=kA.toList.toArray:=by simp
 have tail:∀ st:SortSt,failedOf st=none->(arrOf st).map (·.2)=List.toArray ((j5 gB ps).map λi=>vs.getD i .none)->wpAny (model X.prog X.w) X.A.in1.in1 (ksk_tail a false e1 (.ref kS) st) P E s:=λst hf hm=>by
  unfold ksk_tail;dsimp only;have s1:=Heap.SameBut.update s.heap kS (Obj.mapSeq λ_=>(#[]:Array Value));have na1:(s.heap.update kS (Obj.mapSeq λ_=>(#[]:Array Value))).get? a=some (seqObj "list" #[] e1):=(s1.2 a M.ne.symm).trans h2;refine Zak (listUpdate_at h1 rfl ?_ (by rw[ks2];exact ZaF hz) (Zbb _))
  refine Zak (wpAny_letGo ?_);refine Zak (seqEpoch_at na1 rfl ?_);rw[hm,hf];refine Zak (listUpdate_at na1 rfl ?_ (Zbb _) ?_)
  ·simp only[bne_self_eq_false,Zby,Zbm];refine ZaL (h _ ?_);obtain⟨c2,hc2⟩:∃ c2,((s.heap.update kS (Obj.mapSeq λ_=>(#[]:Array Value))).update a (Obj.mapSeq λ_=>List.toArray ((j5 gB ps).map λi=>vs.getD i .none))).get? a=some (seqObj "list" (List.toArray ((j5 gB ps).map λi=>vs.getD i .none)) c2):=⟨_,get?_update_seq na1 λ_=>_⟩;have I1:Inv X pins σ H { s with heap:=s.heap.update kS (Obj.mapSeq λ_=>(#[]:Array Value)),toks:=s.toks }:=I.nH (ch:=[kS]) (λb o hb q=>by rw[s1.2 b (λz=>hb (by simp[z]))];exact q) λb hb=>by rw[Zaj.mp hb];exact M.k H n1
   have s2:=Heap.SameBut.update (s.heap.update kS (Obj.mapSeq λ_=>(#[]:Array Value))) a (Obj.mapSeq λ_=>List.toArray ((j5 gB ps).map λi=>vs.getD i .none));refine I1.adopt (t':=s.toks) (M.a H n2) (λb o hb q=>by rw[s2.2 b hb];exact q) ⟨?_,(j5 gB ps).map λi=>vs.getD i .none,c2,zM λj hj=>?_,hc2⟩
   ·rw[List.length_map,Ab,hp];exact ZaF hz
   ·have hj:=kZ j hj;have hx:j<xs.length:=by rw[rv.length];omega
    obtain⟨u,f1,f2⟩:=rv.get (Zaa hx);rw[Zae (l:=xs),Zaa hx,Zae (l:=vs),f1];exact f2
  ·show(List.toArray ((j5 gB ps).map λi=>vs.getD i .none)).size<=_
   rw[List.size_toArray,List.length_map,Ab,hp];exact Nat.le_succ_of_le (ZaF hz)
 unfold ksk_end;dsimp only;simp only[Zby,Zbm];by_cases h2:vs.toArray.size<2
 ·rw[Zah h2,Zah h2];refine Zak (ZaL ?_);rw[StateT.run_pure];refine Zak (ZaL ?_);dsimp only;refine tail _ rfl ?_;show(kA.zip vs.toArray).map (·.2)=_
  rw[List.size_toArray] at h2;have eo:j5 gB ps=List.range vs.length:=(ok.Nf (by rw[hp]) (Ht h2)).symm
  apply Array.toList_inj.mp
  rw[eo,ar,Kp kl h2]
 ·rw[Zai h2,Zai h2];rw[List.size_toArray] at h2;obtain⟨fs,k1,k2,k3⟩:=uW (by omega) at_
  rw[ar];refine Zak (kat_kind (T:=.type "int") k1 (by omega) (λf hf=>?_) (by decide) ?_)
  ·obtain⟨x,t,rfl⟩:=k3 f hf;exact .now
  rw[show tuples' (Value.type "int" != Value.type "tuple")=tuples' true from rfl];have run:=Hy (prog:=X.prog) (w:=X.w) (A:=X.A.in1.in1) (E:=E) (s:=s) (ks:=kA.toList) (vs:=vs) (κ:=tuples' true) ok (by omega) hp.symm
   (λi j hi hj e=>ok.inj hi hj ((at_ i _ _ (gk i hi) (gp i hi)).Nf (e▸at_ j _ _ (gk j hj) (gp j hj))))
   λi j hi hj E Q q=>vI.lt (at_ i _ _ (gk i hi) (gp i hi)) (at_ j _ _ (gk j hj) (gp j hj)) (hn _ (rK hi) _ (rK hj)) hu q
  refine Zak (Za9 run ?_ λ_ _ e=>e);rintro⟨⟨⟩,st'⟩ s' ⟨rfl,hf,hm,_⟩;exact tail st' hf hm
def Kr(K:Frag)(rk:List V->Hp->VK->Prop)(x:V)(H:Hp)(Q:VK):Prop:=∃ (p:Addr) (xs:List V),x=.ref p/\SqL K H p xs/\xs.length<sizeLine /\
 wK rk xs [] H λks H'=>∃ ps:List Tk,ps.length=xs.length/\(∀ (i:Nat) k p,ks[i]?=some k->ps[i]?=some p->TkV H' k p)/\ps.Nodup/\(∀ p∈ps,∀ q∈ps,p.1=q.1->p.2.length=q.2.length) /\
  ∀ l,H' l=none->Q (.ref l) (upd H' l (.lst ((j5 gB ps).map λj=>xs.getD j (.bl false))))
theorem yf{q:Addr}(hk:ye X.inK pins (.ref q) rk)(hu:X.A.in1.in1.units<cLine){x:V}{u:Value}{Q:VK}(I:Inv X pins σ H s)(rx:RelV x u)(h:Kr X.K rk x H Q) :
  wpAny (model X.prog X.w) X.A (call (.builtin "sorted") [u] [(Str.ofString "key",.ref q)]) (EP X pins σ Q) X.xe s:=by
 obtain⟨p,xs,rfl,hq,hz,h⟩:=h;cases rx;obtain⟨vs,rv,pl,_⟩:=I.list hq;have hz:vs.length<sizeLine:=by rw[<-rv.length];exact hz
 refine call_function_entry_kw kind_sorted plain_sorted entry_sorted (ksk_s1 _ _) ?_;unfold Builtin.«sorted»;refine Zak (m:=checkCount "sorted" 1 1 _) (ZaL ?_);refine Zak (collect_list pl.isList ?_ (ZaF hz));refine Zak (wpAny_newList ?_ (ZaF hz));have hsz:((s.heap.push (seqObj "list" #[] 0)).update s.heap.objs.size (Obj.mapSeq (·++vs.toArray))).objs.size=s.heap.objs.size+1:=by
  rw[Heap.size_update,size_push']
 have hoL:(((s.heap.push (seqObj "list" #[] 0)).update s.heap.objs.size (Obj.mapSeq (·++vs.toArray))).push (seqObj "list" vs.toArray 0)).get? (s.heap.objs.size+1)=some (seqObj "list" vs.toArray 0):=by
  rw[<-hsz];exact Zax _ rfl
 have keep:∀ b o,s.heap.get? b=some o->(((s.heap.push (seqObj "list" #[] 0)).update s.heap.objs.size (Obj.mapSeq (·++vs.toArray))).push (seqObj "list" vs.toArray 0)).get? b=some o:=λb o q=>by
  have hlt:b<s.heap.objs.size:=Zau q;rw[Heap.get?_push_ne _ _ _ (by rw[hsz];exact ZaG (Nat.lt_succ_of_lt hlt)),Heap.get?_update_ne _ _ _ _ (ZaG hlt),Heap.get?_push_ne _ _ _ (ZaG hlt)]
  exact q
 show wpAny _ _ _ _ _ { s with heap:=((s.heap.push (seqObj "list" #[] 0)).update s.heap.objs.size (Obj.mapSeq (·++vs.toArray))).push (seqObj "list" vs.toArray 0) }
 rw[hsz];have hsz2:(((s.heap.push (seqObj "list" #[] 0)).update s.heap.objs.size (Obj.mapSeq (·++vs.toArray))).push (seqObj "list" vs.toArray 0)).objs.size=s.heap.objs.size+2:=by
  rw[size_push',hsz]
 generalize ((s.heap.push (seqObj "list" #[] 0)).update s.heap.objs.size (Obj.mapSeq (·++vs.toArray))).push (seqObj "list" vs.toArray 0)=g at hoL keep hsz2
 refine Zak (wpAny_holding (wpAny_call_entry_kw slot_list_sort ⟨_,hoL,rfl⟩ entry_list_sort ?_ (ksk_l1 _ _)));show wpAny (model X.prog X.w) X.A.in1.in1 (Builtin.«list.sort» ⟨[.ref (s.heap.objs.size+1)],_⟩) _ _ _
 rw[ksk_t1];have s1:=Heap.SameBut.update g (s.heap.objs.size+1) (Obj.mapSeq λ_=>(#[]:Array Value));obtain⟨e1,ho1⟩:∃ e1,(g.update (s.heap.objs.size+1) (Obj.mapSeq λ_=>(#[]:Array Value))).get? (s.heap.objs.size+1)=some (seqObj "list" #[] e1):=⟨_,get?_update_seq hoL λ_=>#[]⟩;have hkS:((g.update (s.heap.objs.size+1) (Obj.mapSeq λ_=>(#[]:Array Value))).push (seqObj "tuple" vs.toArray 0)).objs.size=s.heap.objs.size+3:=by rw[size_push',Heap.size_update,hsz2]
 unfold ksk_tree;refine Zak (listItems_at hoL rfl ?_);refine Zak (listUpdate_at hoL rfl ?_ (by rw[List.size_toArray];exact ZaF hz) (Zbb _))
 refine Zak (seqEpoch_at ho1 rfl ?_);refine Zak (wpAny_newTuple ?_ (by show vs.length<=_;exact ZaF hz))
 refine Zak (wpAny_newList ?_ (Zbb _));refine wpAny_holding ?_;rw[hkS];have fresh:∀ b,s.heap.objs.size<=b->H b=none:=λb hb=>I.hok.fresh hb;have keep2:∀ b o,s.heap.get? b=some o->(((g.update (s.heap.objs.size+1) (Obj.mapSeq λ_=>(#[]:Array Value))).push (seqObj "tuple" vs.toArray 0)).push (seqObj "list" #[] 0)).get? b=some o:=λb o q=>
  Zaf _ (Zaf _ (by rw[s1.2 b (ZaG (Nat.lt_succ_of_lt (Zau q)))];exact keep b o q))
 have M:Ad X pins (s.heap.objs.size+3) (s.heap.objs.size+1):=⟨λz=>absurd (Nat.add_left_cancel z:3=1) (by decide),λH h=>I.t8 (Nat.le_add_right _ _) h,λH h=>I.t8 (Nat.le_add_right _ _) h⟩
 refine Hz (s:={ s with heap:=((g.update (s.heap.objs.size+1) (Obj.mapSeq λ_=>(#[]:Array Value))).push (seqObj "tuple" vs.toArray 0)).push (seqObj "list" #[] 0) }) hk M rv hz (by
   have:=Zax ((g.update (s.heap.objs.size+1) (Obj.mapSeq λ_=>(#[]:Array Value))).push (seqObj "tuple" vs.toArray 0)) (o:=seqObj "list" #[] 0) rfl;rw[hkS] at this;exact this) (Zaf _ (Zaf _ ho1)) (fresh _ (by omega)) (fresh _ (by omega)) (I.kept (t':=s.toks) keep2) h ?_
 intro ks kA e H' s' I' g1 g2 n1 n2 vk hl hr;obtain⟨ps,hp,ht,nd,hn,hQ⟩:=hr;refine Kq M I' g1 g2 n1 n2 rv vk hl hz (by rw[hp,rv.length]) ht nd hn hu λs2 I2=>⟨_,rfl,?_⟩
 exact ZaL ⟨_,rfl,.ref _,_,I2,rfl,hQ _ n2⟩
end
def Nh(K:Frag)(rk:List V->Hp->VK->Prop):List V->Hp->VK->Prop:=λvs H Q=>∃ x,vs=[x]/\Kr K rk x H Q
namespace MP
def QR:PV->Option Tk
 |.tup [.int n,.tup l]=>(fC l).map λns=>(n,ns)
 |_=>none
def keysOf(m:List PV->Option (Res PV)):List PV->Option (List Tk)
 |[]=>some []
 |p::l=>match m [p] with
  |some (.ok q)=>match QR q,keysOf m l with
   |some t,some ts=>some (t::ts)
   |_,_=>none
  |_=>none
def lg(m:List PV->Option (Res PV))(l:List PV):Option (Res PV):=match keysOf m l with
 |some ts=>if ts.Nodup/\(∀ p∈ts,∀ q∈ts,p.1=q.1->p.2.length=q.2.length)/\l.length<sizeLine then some (.ok (.lst ((j5 gB ts).map λj=>l.getD j .non))) else none
 |none=>none
theorem uX{m:List PV->Option (Res PV)}:∀ {l:List PV}{ts:List Tk},keysOf m l=some ts->ts.length=l.length
 |[],ts,h=>by cases h;rfl
 |p::l,ts,h=>by
  unfold keysOf at h;split at h
  ·split at h
   ·rename_i t ts' h1 h2;cases h;rw[ZaK,ZaK,uX h2]
   ·cases h
  ·cases h
section
variable{K:Frag}{F:Hp}
theorem Ni{F:Hp}{v:V}{q:PV}{t:Tk}(h:QR q=some t)(r:Rep K F v q):TkV F v t:=by
 match q,h with
 |.tup [.int n,.tup l],h=>
  have h:(fC l).map (λns=>(n,ns))=some t:=h;obtain⟨ns,e1,rfl⟩:=ZbG.mp h;obtain⟨a,zs,rfl,ha,rr⟩:=Rep.pP r;obtain⟨v1,ys1,rfl,s1,s2⟩:=rr.eN;obtain⟨v2,ys2,rfl,s3,s4⟩:=s2.eN;cases s4.jy;cases Rep.bu s1;obtain⟨b,ws,rfl,hb,rs⟩:=Rep.pP s3;refine⟨a,b,rfl,ha,?_⟩;rw[hb,rC e1 rs]
theorem Ks{F F':Hp}{v:V}{t:Tk}(h:TkV F v t)(s:aR F F'):TkV F' v t:=by
 obtain⟨a,b,rfl,h1,h2⟩:=h;exact⟨a,b,rfl,s _ _ h1,s _ _ h2⟩
end
end MP
theorem Ku{X:Cx}{pins:List (Addr×Obj)}{σ:St}{H:Hp}{s:Shared}{k:Nat}{f c:Addr}{name qual:Str}{params:Arguments}{body:Expr}{scope:Scope}{pm ctv:Value}{oc:Obj}{cvs:Array Value}{tq:Tok}{N ps:List Str}{Q:VK}{us:List Value}{vs:List V}{te:TE}
  (S:bf N ps scope)(hr:dH (k+1) X.A)(I:Inv X pins σ H s)(hf:s.heap.get? f=some (kla_obj name qual params body scope [] pm c ctv))(hc:s.heap.get? c=some oc)(hd:oc.data=.fields cvs)(hq:cvs[1]?=some (.str qual tq))
  (hb:bindArgs (kla_fn name qual params body scope [] pm (.ref c) ctv) ⟨us,[]⟩=pure (ps.zip us))(r:Vals vs us)(hl:vs.length=ps.length)
  (hbody:∀ (A:Around) (outer:List Env) (s:Shared) (H:Hp),dH k (A.deeper (envOfC qual scope s.heap.objs.size f (.ref c)))->PE (sE CX0 X.prog X.w X.K X.mg X.base N qual scope f (.ref c) A outer s H E0) body te)
  (h:te (start N vs) H Q):wpAny (model X.prog X.w) X.A (call (.ref f) us) (EP X pins σ Q) X.xe s:=by
 have hkind:∀ y∈ps.zip us,scope.names.lookup y.1=some .local\/(scope.names.lookup y.1=some .cell/\((cellsFrom (s.heap.objs.size+1) scope.names []).lookup y.1).isSome=true):=λ⟨n,v⟩ hy=>by
  rcases S.par n (List.of_mem_zip hy).1 with q|q
  ·exact .inl q
  ·exact .inr ⟨q,PySem.W.cellsFrom_some _ _ _ (.inl q)⟩
 refine wpAny_call (codeAny_mono (R:=λr s'=>CR CX0 X.stack X.prog X.w H s Q E0 r s') ?_ λr s' hq=>?_)
 ·refine kla_callFunE (Nat.lt_of_le_of_lt (by omega) hr.dp) hf rfl S.co S.gen rfl ⟨c,oc,cvs,tq,rfl,hc,hd,hq⟩ ?_
  rw[hb];refine ZaL ?_;refine wpAny_newFunctionEnv_cells S.kind hkind λenv he s1 x=>?_;subst he;refine⟨I.nolimit.keeps x.toInCall.keep,?_⟩;have J:Inv (sE CX0 X.prog X.w X.K X.mg X.base N qual scope f (.ref c) X.A X.stack s H E0) [] (start N vs) H s1:=vX S hr.hd I.env0 hl r x;show codeAny (model X.prog X.w) X.A (.expr body (envOfC qual scope s.heap.objs.size f (.ref c))) _ s1
  refine kla_codeExpr (Za9 (hbody X.A X.stack s H (hr.deeper _) [] s1 (start N vs) H _ J h) (λv s' hs=>?_) λe s' hs=>hs);obtain⟨y,H',J',rv,q⟩:=hs;exact⟨y,H',J'.os,J'.bare,J'.base,J'.hok,rv,q⟩
 ·cases r with
  |error e=>exact Oq pins σ H s e s' I hq
  |ok fl=>
   cases fl with
   |ret u=>exact I.after hq
   |next=>exact False.elim hq
   |brk=>exact False.elim hq
   |cont=>exact False.elim hq
section
variable{X:Cx}{pins:List (Addr×Obj)}{σ:St}{H:Hp}{s:Shared}{P cc:Addr}{lpos:Pos}{q:Str}{params:Arguments}{body:Expr}{scope:Scope}
def Nj(X:Cx)(pins:List (Addr×Obj))(σ:St)(H:Hp)(q:Str)(params:Arguments)(body:Expr)(scope:Scope)(v:Value)(s':Shared):Prop:=
 ∃ (f c:Addr) (oc:Obj) (vs:Array Value) (t:Tok) (ctv:Value) (H2:Hp),v=.ref f/\Inv X pins σ H2 s'/\s'.heap.get? f=some (kla_obj "<lambda>" q params body scope [] ((X.mg "__name__").getD .none) c ctv)/\oU X pins H2 f /\
  H2 c=some (.frz oc (.own 0))/\oc.data=.fields vs/\vs[1]?=some (.str q t)/\∀ b o,H b=some o->H2 b=some o
theorem Kv(I:Inv X pins σ H s)(hP:H P=some (.tab lpos q))(hq:q=X.env.qual++"<lambda>")(hdef:defaultsOf params X.env=([],[]))(hcl:closureFor scope X.env=pure [])(hcode:X.env.code=.ref cc)(C:CodeHd X.base cc P)(hB:X.base.BuiltinsAt X.mg P) :
  wpAny (model X.prog X.w) X.A (eval (.Lambda params body scope lpos) X.env) (Nj X pins σ H q params body scope) X.xe s:=by
 subst hq;obtain⟨ps,hp,tr,z⟩:=(show dg X.prog X.w H s.heap P (.tab lpos _) from I.hok P _ hP);have hg:s.heap.Ns mainGlobals X.mg:=I.mod.glob.keeps I.bk;have C':CodeHd s.heap cc P:=C.keeps I.bk;have hB':s.heap.BuiltinsAt X.mg P:=hB.keeps I.bk;have hgP:mainGlobals≠P:=λz=>by
  obtain⟨o,es,ep,e,_⟩:=I.mod.glob;have:=(I.bs _ _ e).2;rw[z,hP] at this;cases this
 refine kla_eval hdef ?_;rcases z with z|⟨c,oc,vs,t,z1,z2,z3,z4⟩
 ·refine kla_makeFunction (mg:=X.mg) hcl I.ok.glob hg hcode C' hp tr z hgP hB' λc ctv h' tk hx hge hlt hrec htb=>?_;obtain⟨c',oc,vs,t,ec,hoc,hd,hv⟩:=hrec;cases ec;have hn:H c=none:=I.hok.fresh hge;have cP:c≠P:=λz=>by rw[z,hP] at hn;cases hn
  have keep:∀ b o,b≠P->s.heap.get? b=some o->(h'.push (kla_obj "<lambda>" (X.env.qual++"<lambda>") params body scope [] ((X.mg "__name__").getD .none) c ctv)).get? b=some o:=λb o nb e=>Zaf _ (hx b o nb e);have same:∀ b o,H b=some o->upd H c (.frz oc (.own 0)) b=some o:=λb o e=>by rw[aq (aY e hn)];exact e
  have szl:s.heap.objs.size<=h'.objs.size:=ZaQ hge (ZaF hlt);have J:Inv X pins σ (upd H c (.frz oc (.own 0))) { s with heap:=h'.push (kla_obj "<lambda>" (X.env.qual++"<lambda>") params body scope [] ((X.mg "__name__").getD .none) c ctv),toks:=tk }:=by
   have nP:∀ b,H b=none->b≠P:=λb e z=>by rw[z,hP] at e;cases e
   refine I.un ⟨λb o e n _ _=>keep b o (nP b n) e,λb o e n _ _=>⟨o.slots,keep b o (nP b n) e⟩,λb o e n _=>?_,λb o e _=>?_,λb xs e=>same b _ e,λb o u e=>same b _ e,λb ps e=>⟨#[],by rw[same b _ e];simp⟩⟩ λb o e=>?_
   ·rw[aq (λz=>by rw[z] at e;exact absurd (Zap (Zau e) hge) (Zbv _))];exact n
   ·by_cases hb:b=P
    ·subst hb;exact⟨_,Zaf _ htb⟩
    ·exact⟨o,keep b o hb e⟩
   ·by_cases hb:b=c
    ·subst hb;rw[aK] at e;cases e;exact⟨Zaf _ hoc,⟨oc,Zaf _ hoc⟩⟩
    ·rw[aq hb] at e;by_cases hb2:b=P
     ·subst hb2;rw[hP] at e;cases e;refine⟨ps++#[rawInt lpos.line,rawInt lpos.col,.ref c],Zaf _ htb,?_,.inr ⟨c,oc,vs,t,?_,aK,hd,hv⟩⟩
      ·rw[ZaI];exact TriplesOk_snoc _ _ _ _ tr
      ·rw[ZaI];exact codeAmong_snoc _ tr z
     ·refine(I.hok b o e).stay (λd v hc r=>keep d v ?_ r) (λd r=>same d _ r) (λd xs r=>same d _ r) (λd ob r=>same d _ r);rcases hc with hc|hc
      ·rw[hc];exact hb2
      ·exact λz=>by rw[z,hP] at hc;cases hc
  exact⟨_,c,oc,vs,t,ctv,_,rfl,J,Zax _ rfl,I.t8 szl (by
   rw[aq (Nat.ne_of_gt hlt)];exact I.hok.fresh szl),aK,hd,hv,same⟩
 ·refine kla_makeFunctionHit (mg:=X.mg) hcl I.ok.glob hg hcode C' hp tr z1 hB' λctv h' tk hk hsz=>?_;have J:Inv X pins σ H { s with heap:=h'.push { cls:=.type "function",data:=.func (kla_fn "<lambda>" (X.env.qual++"<lambda>") params body scope [] ((X.mg "__name__").getD .none) (.ref c) ctv) },toks:=tk }:=I.kept λb o e=>Zaf _ (hk b o e);exact⟨_,c,oc,vs,t,ctv,H,rfl,J,Zax _ rfl,I.t8 hsz (I.hok.fresh hsz),z2,z3,z4,λ_ _ e=>e⟩
end
def Kw(N:List Str)(te:TE)(c:Addr)(oc:Obj):List V->Hp->VK->Prop:=λxs H Q=>xs.length=1/\H c=some (.frz oc (.own 0))/\te (start N xs) H Q
def Ae(K:Frag)(P:Addr)(lpos:Pos)(q:Str)(N:List Str)(te:TE)(ta:TA):TE:=λσ H Q=>ta σ H λvs H1=>H1 P=some (.tab lpos q) /\
 ∀ (c:Addr) (oc:Obj) (H2:Hp),H2 c=some (.frz oc (.own 0))->(∀ b o,H1 b=some o->H2 b=some o)->Nh K (Kw N te c oc) vs H2 Q
section
variable{X:Cx}{k:Nat}{N ps:List Str}{P cc:Addr}{lpos p pos kp:Pos}{q:Str}{params:Arguments}{body l:Expr}{scope:Scope}{te:TE}{ta:TA}
theorem Di(S:bf N ps scope)(hps:ps.length=1)(hr:dH (k+3) X.A)(hg:Gl X "sorted")(hm:X.mg "sorted"=none)(ha:PA X [l] ta)
  (hq:q=X.env.qual++"<lambda>")(hdef:defaultsOf params X.env=([],[]))(hcl:closureFor scope X.env=pure [])(hcode:X.env.code=.ref cc)(C:CodeHd X.base cc P)(hB:X.base.BuiltinsAt X.mg P)
  (hb:∀ (pm ctv:Value) (c:Addr) (u:Value),bindArgs (kla_fn "<lambda>" q params body scope [] pm (.ref c) ctv) ⟨[u],[]⟩=pure (ps.zip [u]))
  (hbody:∀ (f c:Addr) (A:Around) (outer:List Env) (s:Shared) (H:Hp),dH k (A.deeper (envOfC q scope s.heap.objs.size f (.ref c)))->PE (sE CX0 X.prog X.w X.K X.mg X.base N q scope f (.ref c) A outer s H E0) body te)
  (hs:starEach [l] X.env=[(false,eval l X.env)]:=by rfl) :
  PE X (.Call (.Name "sorted" p) [l] [⟨some "key",.Lambda params body scope lpos,kp⟩] pos) (Ae X.K P lpos q N te ta):=by
 intro pins s σ H Q I h;have he:eval (.Call (.Name "sorted" p) [l] [⟨some "key",.Lambda params body scope lpos,kp⟩] pos) X.env=(do callWith pos (<-eval (.Name "sorted" p) X.env) [] (backTo pos (starEach [l] X.env)) (backToKw pos (keywordEach [⟨some "key",.Lambda params body scope lpos,kp⟩] X.env))):=rfl
 rw[he];refine Zak (tZ I hg hm boot_sorted (callWith_builtin_kwB (by rw[hs];rfl) rfl ?_))
 have hbk:backTo pos (starEach [l] X.env)=[(false,eval l X.env)]:=by rw[hs];rfl
 have ha':=ha pos pins s σ H _ I h;rw[hbk] at ha' ⊢;refine evalArgs_kwB rfl (thn ha' ?_);rintro us s1 ⟨vs,H1,I1,r1,hP,q1⟩;refine kws_cons (Za9 (Kv I1 hP hq hdef hcl hcode C hB) (λv s2 hm=>kws_nil ?_) λ_ _ e=>e);obtain⟨f,c,oc,cvs,t,ctv,H2,rfl,I2,hf,fp,hc,hd,hv,same⟩:=hm;obtain⟨x,rfl,qq⟩:=q1 c oc H2 hc same;have I3:Inv X (pins++[(f,kla_obj "<lambda>" q params body scope [] ((X.mg "__name__").getD .none) c ctv)]) σ H2 s2:=I2.sV λp hp=>(Zab.mp hp).elim (λz=>I2.pin p (Zaq _ z)) λz=>by
  rw[Zaj.mp z];exact⟨hf,fp.1,fp.2.1,fp.2.2.1,λv z=>by cases z⟩
 have hk:ye X.inK (pins++[(f,kla_obj "<lambda>" q params body scope [] ((X.mg "__name__").getD .none) c ctv)]) (.ref f) (Kw N te c oc):=λpins2 s σ H xs us Q hsub J r ⟨hl,h1,h2⟩=>by
  have hu1:us.length=1:=by rw[<-r.length];exact hl
  obtain⟨u,rfl⟩:∃ u,us=[u]:=by
   match us,hu1 with
   |[u],_=>exact⟨u,rfl⟩
  exact Ku (X:=X.inK) S hr.in1.in1 J (J.pin _ (Zaq _ (hsub _ (Zaq _ (.head _))))).1 (J.hok c _ h1).1 hd hv (hb _ _ _ _) r (by rw[hl,hps]) (λA outer s H hr=>hbody f c A outer s H hr) h2
 cases r1 with
 |cons r rr=>
  cases rr;exact Za9 (yf hk (by have:=hr.un;show X.A.units+1+1<_;omega) I3 r qq) (λv s3 ⟨y,H3,I4,ry,z⟩=>⟨y,H3,I4.ji,ry,z⟩) λ_ _ e=>e
end
end L2
namespace L2.MP
open PySem PySem.Spec PySem.W PyProof PyProof.Rows
def QT(fe:Fn PV):List PV->Option (Res PV)
 |[p]=>fe (startR [p] 0)
 |_=>none
section
variable{K:Frag}{C:Cg}{te ta:TE}{fe:Fn PV}{N:List Str}{c:Addr}{oc:Obj}
theorem QV(h:∀ (io:Addr->Prop) (H0 F0:Hp),MJ K (C0 io H0 F0) (aF K) te fe)(hN:N.length=1){F H:Hp}{x:V}{p q:PV}(s:aR F H)(r:Rep K F x p)(e:fe (startR [p] 0)=some (.ok q)){Q:VK}(g:∀ v F' H',Up F H F' H'->Rep K F' v q->Q v H'):te (start N [x]) H Q:=
 h (λ_=>False) H F F H _ _ Q (.ok q) (jo (E:=E0) (N:=N) (n:=0) s (.cons r .nil) hN) e g
theorem wL(h:∀ (io:Addr->Prop) (H0 F0:Hp),MJ K (C0 io H0 F0) (aF K) te fe)(hN:N.length=1){R:List V->Hp->Prop}:∀ {l:List PV}{xs ks:List V}{ts:List Tk}{F H:Hp},H c=some (.frz oc (.own 0))->bQ K F xs l->aR F H->keysOf (QT fe) l=some ts ->
  (∀ ks' F' H',Up F H F' H'->ks'.length=ts.length->(∀ (i:Nat) k t,ks'[i]?=some k->ts[i]?=some t->TkV F' k t)->R (ks++ks') H')->wK (Kw N te c oc) xs ks H R
 |[],xs,ks,ts,F,H,hc,r,s,e,g=>by
  cases e;cases r.jy;have:=g [] F H (Up.refl s) rfl λi k t e=>by simp at e
  rw[ZaM] at this;exact this
 |p::l,xs,ks,ts,F,H,hc,r,s,e,g=>by
  obtain⟨v,ys,rfl,r1,r2⟩:=r.eN;unfold keysOf at e;split at e
  case h_2=>cases e
  rename_i q hq;split at e
  case h_2=>cases e
  rename_i t ts' ht hts;cases e;refine⟨rfl,hc,QV h hN s r1 hq λw F' H' u rw'=>?_⟩;refine wL h hN (ks:=ks++[w]) (u.hh _ _ hc) (bQ.up r2 u.ff) u.fh hts λks' F2 H2 u2 hl hk=>?_;have:=g (w::ks') F2 H2 (u.trans u2) (by simp[hl]) λi k t' e1 e2=>?_
  ·rw[Zar];exact this
  ·cases i with
   |zero=>cases e1;cases e2;exact Ks (Ni ht rw') u2.ff
   |succ i=>exact hk i k t' (by simpa using e1) (by simpa using e2)
theorem Dj{P:Addr}{lpos:Pos}{q:Str}{f:Fn (List PV)}(h:∀ (io:Addr->Prop) (H0 F0:Hp),MJ K (C0 io H0 F0) (aF K) te fe)(hN:N.length=1)(hT:C.H0 P=some (.tab lpos q))(hio:¬C.io P)(ha:MJ K C (aV K) ta f) :
  MO K C (Ae K P lpos q N te (ud ta yR)) (m1 (lg (QT fe)) f):=by
 intro F H σ ρ Q r R e Pq;refine ha.run R e Pq λl v F1 H1 hk u a=>?_;refine⟨(R.up u).rb.keep P _ hT hio,λc oc H2 hc same=>?_⟩;unfold lg at hk;split at hk
 case h_2=>cases hk
 rename_i ts hts;split at hk
 case isFalse=>cases hk
 rename_i hcn;cases hk;obtain⟨b,xs,rfl,h1,r1⟩:=a;have s2:aR F1 H2:=λb o z=>same b o (u.fh b o z);have u12:Up F1 H1 F1 H2:=⟨aR.refl _,same,λ_ _ z=>.inl z,s2⟩;have tl:=uX hts;refine⟨.ref b,rfl,b,xs,rfl,u12.hh.seq h1,by rw[r1.1];exact hcn.2.2,wL h hN hc r1 s2 hts λks' F' H' u' hl hk=>?_⟩
 rw[List.nil_append];have uu:=(u.trans u12).trans u';refine⟨ts,by rw[tl,r1.1],λi k t e1 e2=>Ks (hk i k t e1 e2) u'.fh,hcn.1,hcn.2.1,λa ha=>?_⟩
 refine Pq a F' _ (uu.trans (Up.Hf u'.fh ha)) (uu.hh.free ha) (u'.fh.free ha) ⟨_,aK,by simp,λj x p e1 e2=>?_⟩
 rw[Zac] at e1 e2;cases ej:(j5 gB ts)[j]? with
 |none=>rw[ej] at e1;cases e1
 |some i=>
  rw[ej] at e1 e2;cases e1;cases e2;have hi:=kZ i (ZaC ej);have hx:i<xs.length:=by rw[r1.1];omega
  have hl:i<l.length:=by omega
  show Rep K F' (xs.getD i (V.bl false)) (l.getD i PV.non)
  rw[Zae,Zaa hx,Zae,Zaa hl];exact Rep.up (r1.2 i _ _ (Zaa hx) (Zaa hl)) u'.ff
end
def spT(P:Addr)(lpos:Pos)(q:Str)(sp:Sp):Sp:=λvs H Q E=>H P=some (.tab lpos q)/\sp vs H Q E
section
variable{K:Frag}{C:Cg}{N:List Str}{vs:List V}{H:Hp}{Q:VK}{E:XK}{m:List PV->Option (Res PV)}{t:TS}{b:Sn}{PT:Addr}{lpos:Pos}{qn:Str}{XR:Hp->Value->Option Addr->PV->Prop}
theorem Af{k n:Nat}(hk:N.length=k+n)(hm:∀ ps r,m ps=some r->ps.length=k/\fin (b (startR ps n))=some r)(h:spT PT lpos qn (spM K XR0 m) vs H Q E)(hS:∀ (io:Addr->Prop) (H0 F0:Hp),(∀ a,¬io a)->H0 PT=some (.tab lpos qn)->MS K (C0 io H0 F0) t b) :
  t { nx:=λ_ H'=>Q .non H',rt:=Q } (start N vs) H:=by
 obtain⟨hT,ps,F,r,s,rp,e,P⟩:=h;obtain⟨hl,e⟩:=hm ps r e;have R:=jo (E:=E0) (N:=N) (n:=n) s rp (by rw[rp.1,hl];exact hk)
 have up:∀ {F' H':Hp},aR F F'->RB ⟨λ_=>False,True,H,F,E0⟩ F' H'->Up F H F' H':=λs' rb=>⟨s',λc o q=>rb.keep c o q id,rb.new,rb.sub⟩;have M:=hS (λ_=>False) H F (λ_ h=>h) hT;cases ho:b (startR ps n) with
 |none=>rw[ho] at e;cases e
 |some o=>
  rw[ho] at e;refine M F H _ _ _ o R ho ?_;cases o with
  |nx ρ=>cases e;exact λF' H' σ s' R'=>P .non F' H' (up s' R'.rb) .non
  |rt p=>cases e;exact λv F' H' s' rb rv=>P v F' H' (up s' rb) rv
  |ex z=>exact λ_ _ _ _ _ _ x=>x.elim
  |ro p=>cases e
  |rd p=>cases e
  |bk ρ=>cases e
  |ct ρ=>cases e
theorem mQ{k n:Nat}(hk:N.length=k+n)(hm:∀ ps r,m ps=some r->ps.length=k/\p7 (b (startR ps n))=some r)(h:spT PT lpos qn (spO K XR0 m) vs H Q E)(hS:∀ (io:Addr->Prop) (H0 F0:Hp),(∀ a,¬io a)->H0 PT=some (.tab lpos qn)->MS K (C0 io H0 F0) t b) :
  t { nx:=λ_ H'=>Q .non H',rt:=Q } (start N vs) H:=by
 obtain⟨hT,ps,F,r,s,rp,e,P⟩:=h;obtain⟨hl,e⟩:=hm ps r e;have R:=jo (E:=E0) (N:=N) (n:=n) s rp (by rw[rp.1,hl];exact hk)
 have up:∀ {F' H':Hp},aR F F'->RB ⟨λ_=>False,True,H,F,E0⟩ F' H'->Up F H F' H':=λs' rb=>⟨s',λc o q=>rb.keep c o q id,rb.new,rb.sub⟩;have M:=hS (λ_=>False) H F (λ_ h=>h) hT;cases ho:b (startR ps n) with
 |none=>rw[ho] at e;cases e
 |some o=>
  rw[ho] at e;refine M F H _ _ _ o R ho ?_;cases o with
  |ro p=>cases e;exact λa F' H' s' rb w n1 n2=>P a F' H' (up s' rb) n2 n1 w
  |ex z=>exact λ_ _ _ _ _ _ x=>x.elim
  |nx ρ=>cases e
  |rt p=>cases e
  |rd p=>cases e
  |bk ρ=>cases e
  |ct ρ=>cases e
theorem Ag{k n:Nat}(hk:N.length=k+n)(hm:∀ ps r,m ps=some r->ps.length=k/\vD (b (startR ps n))=some r)(h:spT PT lpos qn (spD K XR0 m) vs H Q E)(hS:∀ (io:Addr->Prop) (H0 F0:Hp),(∀ a,¬io a)->H0 PT=some (.tab lpos qn)->MS K (C0 io H0 F0) t b) :
  t { nx:=λ_ H'=>Q .non H',rt:=Q } (start N vs) H:=by
 obtain⟨hT,ps,F,r,s,rp,e,P⟩:=h;obtain⟨hl,e⟩:=hm ps r e;have R:=jo (E:=E0) (N:=N) (n:=n) s rp (by rw[rp.1,hl];exact hk)
 have up:∀ {F' H':Hp},aR F F'->RB ⟨λ_=>False,True,H,F,E0⟩ F' H'->Up F H F' H':=λs' rb=>⟨s',λc o q=>rb.keep c o q id,rb.new,rb.sub⟩;have M:=hS (λ_=>False) H F (λ_ h=>h) hT;cases ho:b (startR ps n) with
 |none=>rw[ho] at e;cases e
 |some o=>
  rw[ho] at e;refine M F H _ _ _ o R ho ?_;cases o with
  |rd p=>cases e;exact λv F' H' S s' rb d n=>P v F' H' S (up s' rb) d λb q=>⟨(n b q).2.2,(n b q).1,(n b q).2.1⟩
  |ex z=>exact λ_ _ _ _ _ _ x=>x.elim
  |nx ρ=>cases e
  |rt p=>cases e
  |ro p=>cases e
  |bk ρ=>cases e
  |ct ρ=>cases e
theorem mR(hT:C.H0 PT=some (.tab lpos qn))(hio:¬C.io PT){t:TA}{f:Fn (List PV)}{m:List PV->Option (Res PV)}(h:MA K C t f):MO K C (ue (spT PT lpos qn (spO K C.XR m)) [] C.E t) (bI m f):=by
 intro F H σ ρ Q r R e P;refine h.run R e P λl xs F1 H1 hk u a=>?_;refine⟨(R.up u).rb.keep PT _ hT hio,l,F1,r,u.fh,by rw[ZaM];exact a,hk,?_⟩
 cases r with
 |ok p=>exact λv F' H' u' n1 n2 rv=>P v F' H' (u.trans u') (u.hh.free n1) n2 rv
 |ex z=>exact λe d F' H' u' x=>P e d F' H' (u.trans u').ff (R.rb.up (u.trans u')) x
theorem Ah(hT:C.H0 PT=some (.tab lpos qn))(hio:¬C.io PT){t:TA}{fe:Fn (List PV)}{m:List PV->Option (Res PV)}(h:MA K C t fe):MD K C (ue (spT PT lpos qn (spD K C.XR m)) [] C.E t) (bI m fe):=by
 intro F H σ ρ Q r R e P;refine h.run R e P λl xs F1 H1 hk u a=>?_;refine⟨(R.up u).rb.keep PT _ hT hio,l,F1,r,u.fh,by rw[ZaM];exact a,hk,?_⟩
 cases r with
 |ok p=>exact λv F' H' S u' d n=>P v F' H' S (u.trans u') d λb q=>⟨u.hh.free (n b q).1,(n b q).2⟩
 |ex z=>exact λe d F' H' u' x=>P e d F' H' (u.trans u').ff (R.rb.up (u.trans u')) x
theorem qy{sp:Sp}(h:spT PT lpos qn sp vs H Q E):sp vs H Q E:=h.2
end
end L2.MP
namespace L2
open PySem PySem.Spec PySem.W PyProof PyProof.Rows
section
variable{P:Program}{w:World}{K:Frag}{mg mb:Str->Option Value}{k:Nat}{fa a PT cc:Addr}{fd:FuncData}{x:Str}{sp:Sp}{s₁:Shared}{vs:List Value}{ns:List Int}{lpos:Pos}{qn:Str}
def uY(K:Frag)(PT a:Addr)(lpos:Pos)(qn:Str)(vs:List Value)(ns:List Int):Hp:=λb=>
 if b=PT then some (.tab lpos qn) else if b=a then(match K.lookup a with
  |some _=>none
  |none=>some (.frz { cls:=.type "list",data:=.seq vs.toArray } (.lst (ns.map V.int)))) else none
theorem Nk:uY K PT a lpos qn vs ns PT=some (.tab lpos qn):=Zah rfl
theorem HB{b:Addr}(h1:b≠PT)(h2:b≠a):uY K PT a lpos qn vs ns b=none:=by unfold uY;rw[Zai h1,Zai h2]
theorem Ai{b:Addr}{u:HO}(h:uY K PT a lpos qn vs ns b=some u):(b=PT/\u=.tab lpos qn)\/(b≠PT/\b=a/\K.lookup a=none/\u=.frz { cls:=.type "list",data:=.seq vs.toArray } (.lst (ns.map V.int))):=by
 unfold uY at h;by_cases h1:b=PT
 ·rw[Zah h1] at h;cases h;exact .inl ⟨h1,rfl⟩
 ·rw[Zai h1] at h;by_cases h2:b=a
  ·rw[Zah h2] at h;cases e:K.lookup a with
   |some o=>rw[e] at h;cases h
   |none=>rw[e] at h;cases h;exact .inr ⟨h1,h2,rfl,rfl⟩
  ·rw[Zai h2] at h;cases h
theorem HD(KX:K.In s₁.heap)(hns:s₁.heap.Ns mainGlobals mg)(hb:s₁.heap.Ns builtinsNs mb)(hbb:∀ x:Str,x≠"__name__"->mb x=bootBuiltins x)(hlim:s₁.heap.NoLimit)(hg:s₁.gens=#[])
  (ha:s₁.heap.get? a=some { cls:=.type "list",data:=.seq vs.toArray })(hi:IntsAre vs ns)(hl:ns.length<=sizeLine)(hr:dH k callerA)
  (hP:s₁.heap.get? PT=some { cls:=.none,data:=.fields #[] })(hC:CodeHd s₁.heap cc PT)(hBI:s₁.heap.BuiltinsAt mg PT)(hPK:K.lookup PT=none)
  (F:∀ base:Heap,K.In base->base.Ns mainGlobals mg->CodeHd base cc PT->base.BuiltinsAt mg PT->vA P w K mg base CX0 k fa fd [x] sp)(hbind:∀ (s:Shared) (u:Value),BindsTo s fd ⟨[u],[]⟩ [(x,u)])
  (hsp:∀ H:Hp,H PT=some (.tab lpos qn)->SqL K H a (ns.map V.int)->sp [.ref a] H (λv H'=>v=.bl true/\H' PT=some (.tab lpos qn)) λ_ _ _=>False) :
  codeAny (model P w) callerA (.call (.ref fa) ⟨[.ref a],[]⟩) (λr s'=>r=.ok (.ret (.bool true))/\OldK s₁.heap s'.heap/\s'.os=s₁.os/\AllBare s'.gens) s₁:=by
 have rv:=qW hi;have lenV:=hi.length;have aP:a≠PT:=λz=>by rw[z,hP] at ha;cases ha
 obtain⟨H,eH⟩:∃ H,uY K PT a lpos qn vs ns=H:=⟨_,rfl⟩;have HP:H PT=some (.tab lpos qn):=by rw[<-eH];exact Nk
 have inv:∀ {b:Addr},b≠PT->b≠a->H b=none:=λh1 h2=>by rw[<-eH];exact HB h1 h2
 have cs:∀ {b:Addr}{u:HO},H b=some u->(b=PT/\u=.tab lpos qn)\/(b≠PT/\b=a/\K.lookup a=none/\u=.frz { cls:=.type "list",data:=.seq vs.toArray } (.lst (ns.map V.int))):=λh=>Ai (by rw[eH];exact h)
 have hok:HOk P w H s₁.heap:=λb u e=>by
  rcases cs e with⟨rfl,rfl⟩|⟨_,rfl,_,rfl⟩
  ·exact⟨#[],hP,trivial,.inl rfl⟩
  ·exact⟨ha,by rw[List.length_map];exact hl,vs,_,rv,ha⟩
 have hS:SqL K H a (ns.map V.int):=by
  cases e:K.lookup a with
  |some o=>
   have z:=KX a o e;rw[ha] at z;cases z;exact .inr ⟨_,vs.toArray,_,e,rfl,rfl,rfl,by rw[List.size_toArray,lenV];exact hl,by simpa using rv⟩
  |none=>
   refine .inl (.inr ⟨{ cls:=.type "list",data:=.seq vs.toArray },?_⟩);rw[<-eH];unfold uY;rw[Zai aP,Zah rfl,e]
 have other:∀ {b:Addr}{o:Obj},s₁.heap.get? b=some o->o.cls≠.type "list"->b≠PT->(su s₁.heap H).get? b=some o:=λ{b o} e hc hb=>tX e (inv hb λz=>by rw[z,ha] at e;cases e;exact hc rfl)
 have dct:∀ {b:Addr}{o:Obj}{es:Array DictEntry}{ep:Nat},s₁.heap.get? b=some o->o.data=.dict es ep->(su s₁.heap H).get? b=some o:=λ{b o es ep} e d=>tX e (inv (λz=>by rw[z,hP] at e;cases e;cases d) λz=>by rw[z,ha] at e;cases e;cases d)
 have nsB:∀ {b:Addr}{m:Str->Option Value},s₁.heap.Ns b m->(su s₁.heap H).Ns b m:=λ{b m} ⟨o,es,ep,e,d,r⟩=>⟨o,es,ep,dct e d,d,r⟩;have kB:K.In (su s₁.heap H):=λb o e=>tX (KX b o e) (by
  cases q:H b with
  |none=>rfl
  |some u=>
   rcases cs q with⟨rfl,_⟩|⟨_,rfl,z,_⟩
   ·rw[hPK] at e;cases e
   ·rw[z] at e;cases e)
 have cB:CodeHd (su s₁.heap H) cc PT:=by
  obtain⟨o,us,file,tf,flags,tg,inF,text,tt,e1,e2,e3,e4,e5,e6,e7,e8,e9,e10⟩:=hC;exact⟨o,us,file,tf,flags,tg,inF,text,tt,other e1 (by rw[e2];decide) e10,e2,e3,e4,e5,e6,e7,e8,e9,e10⟩
 have bB:(su s₁.heap H).BuiltinsAt mg PT:=by
  obtain⟨bm,o,b1,b2,b3,b4,b5,b6,b7⟩:=hBI;exact⟨bm,o,b1,b2,b3,b4,other b5 (by rw[b6];decide) b4,b6,b7⟩
 have hM:Mod K mg (su s₁.heap H):=⟨kB,nsB hns,⟨mb,nsB hb,hbb⟩,let⟨mc,h1,h2⟩:=hlim;⟨mc,nsB h1,h2⟩⟩;have e0:Li P w K mg (su s₁.heap H) callerA [] s₁ H:=⟨rfl,hM,λb o e=>Ld e,Nat.le_of_eq (Gz _ _),trivial,λb hb=>absurd (show b∈([]:List Addr) from hb) (by simp),hok,.of_eq hg⟩
 refine codeAny_mono ((F _ kB (nsB hns) cB bB).run callerA [] s₁ H ⟨[.ref a],[]⟩ [.ref a] [.ref a] _ _ hr e0 (hbind s₁ (.ref a)) (.cons rfl .nil) (hsp H HP hS)) λr s' h=>?_
 match r,h with
 |.error e,h=>exact h.elim
 |.ok (.ret u),h=>
  obtain⟨v,H',os,bare,un,hok',r',rfl,hT⟩:=h;obtain rfl:u=Value.bool true:=r';have tabl:=hC.tab hP;have eff:∀ b o,s₁.heap.get? b=some o->b≠PT->s'.heap.get? b=some o:=λb o e hb=>by
   cases q:H b with
   |none=>exact un.keep b o e q (by intro z;exact absurd (show b∈([]:List Addr) from z) (by simp)) (by simp)
   |some u=>
    rcases cs q with⟨z,_⟩|⟨_,rfl,_,rfl⟩
    ·exact absurd z hb
    ·obtain⟨e2,_⟩:=hok' _ _ (un.frzs _ _ _ q);rw[ha] at e;cases e;exact e2
  obtain⟨ps,hp,_⟩:=(show dg P w H' s'.heap PT (.tab lpos qn) from hok' PT _ hT);refine⟨rfl,⟨λb o e=>?_,λb o e=>?_⟩,os,bare⟩
  ·by_cases hb:b=PT
   ·subst hb;rw[hP] at e;cases e;exact .inr (.inl ⟨tabl.isCodeTable,rfl,#[],ps,rfl,by rw[Array.empty_append];exact hp⟩)
   ·exact .inl (eff b o e hb)
  ·by_cases hb:b=PT
   ·subst hb;exact⟨_,hp⟩
   ·exact⟨o,eff b o e hb⟩
end
theorem Ky{l:PySem.W.OpenLaw}{n k:Nat}{q:Program}{loose:List Str}{XP:(Str->Option Value)->Heap->Prop}{YP:World->Heap->Prop}{d:DefRec}{K:Params->Frag}{sp:World->Sp}{x:Str}{PT cc:Addr}{lpos:Pos}{qn:Str}
  (hn:l.most=some n)(hn2:n<=sizeLine)(hdf:d.params.defaults=[])(hr:dH k callerA)(hY:∀ (w:World) (h:Heap),YP w h->(K w.params).In h)
  (hPT:∀ (w:World) (h:Heap),YP w h->h.get? PT=some { cls:=.none,data:=.fields #[] }/\CodeHd h cc PT)(hPK:∀ w:World,(K w.params).lookup PT=none)
  (F:∀ (w:World) (mg:Str->Option Value) (fa:Addr) (h:Heap),(K w.params).In h->h.Ns mainGlobals mg->mg d.name=some (.ref fa) ->
   ∃ fd:FuncData,(∀ (s:Shared) (u:Value),BindsTo s fd ⟨[u],[]⟩ [(x,u)]) /\
    ∀ base:Heap,(K w.params).In base->base.Ns mainGlobals mg->CodeHd base cc PT->base.BuiltinsAt mg PT->vA l.prog w (K w.params) mg base CX0 k fa fd [x] (sp w))
  (hsp:∀ (w:World) (H:Hp) (a:Addr) (ns:List Int),ns.length<=n->H PT=some (.tab lpos qn)->SqL (K w.params) H a (ns.map V.int)->sp w [.ref a] H (λv H'=>v=.bl true/\H' PT=some (.tab lpos qn)) λ_ _ _=>False) :
  PySem.W.WalkO q loose XP YP l.row.toRowW d [] (λf vs=>PySem.call f vs):=by
 refine Att.yV hn hdf λw s₀ s₁ mg mb fa o pm cd doc a vs ns G Y ho hd hcd hmg hobj hints hlen hg=>?_;have KX:=hY w _ Y;obtain⟨hP,hC⟩:=hPT w _ Y;obtain⟨fd,hb,hF⟩:=F w mg fa _ KX G.T.g hmg;have hBI:s₁.heap.BuiltinsAt mg PT:=by
  obtain⟨bm,ob,b1,b2,b3,b4,b5,b6⟩:=G.T.bmain;refine⟨bm,ob,b1,b2,λz=>?_,λz=>?_,b3,b4,b5,b6⟩
  ·obtain⟨o,es,ep,e,hd,_⟩:=G.T.g;rw[z,e] at b3;cases b3;rw[hd] at b6;cases b6
  ·rw[z,hP] at b3;cases b3;cases b4
 exact HD KX G.T.g G.T.b G.T.builtins G.T.nolimit hg hobj hints (ZaQ hlen hn2) hr hP hC hBI (hPK w) hF hb λH hT hS=>hsp w H a ns hlen hT hS
theorem bh.okC{P:Program}{w:World}{K:Frag}{mg:Str->Option Value}{base:Heap}{x:Str}{st:Stmt}{ps N:List Str}{k:Nat}{sp:Sp}{cc:Addr}(D:bh K mg x st ps)(S:bf N ps (aA st))(len:∀ vs H Q E,sp vs H Q E->vs.length=ps.length)
  (hcc:∀ (f:Addr) (oc:Value) (od:Option Addr) (fd:FuncData) (osl:Array (Option Value)),mg x=some (.ref f)->K.lookup f=some ⟨oc,od,.func fd,osl⟩->fd.code=.ref cc)
  (hbody:∀ (f:Addr) (A:Around) (outer:List Env) (s:Shared) (H:Hp) (vs:List V) (Q:VK) (E:XK),dH k (A.deeper (envOfC x (aA st) s.heap.objs.size f (.ref cc)))->sp vs H Q E ->
   ∃ t,PSs (sE CX0 P w K mg base N x (aA st) f (.ref cc) A outer s H E).nox (aZ st) t/\t { nx:=λ_ H'=>Q .non H',rt:=Q } (start N vs) H):FnAt P w K mg base x (k+1) ps sp:=by
 obtain⟨f,fd,e,F,b⟩:=D.ex;refine⟨f,fd,e,F.kp,b,?_⟩;obtain⟨oc,od,kV,doc,pm,an,cdv,ct,osl,rfl,lk,hcd⟩:=F.ex;have z:cdv=.ref cc:=hcc f oc od _ osl e lk;subst z;refine Om lk hcd S len λA outer s H vs Q E hr hsp=>?_;obtain⟨t,h,q⟩:=hbody f A outer s H vs Q E hr hsp;exact⟨t,h.nox,q⟩
def aU(K:Frag)(PT:Addr):Frag:=K.filter λp=>!(p.1==PT)
theorem lq(PT:Addr):∀ K:Frag,(aU K PT).lookup PT=none
 |[]=>rfl
 |(b,o)::K=>by
  unfold aU;rw[Za7];by_cases h:b=PT
  ·rw[Zai (by simp[h])];exact lq PT K
  ·rw[Zah (by simp[h])]
   have:=lq PT K;unfold aU at this;simp only[List.lookup,show(PT==b)=false from beq_eq_false_iff_ne.mpr (Zbp h)];exact this
theorem pq{PT b:Addr}{o:Obj}:∀ {K:Frag},(aU K PT).lookup b=some o->K.lookup b=some o
 |[],h=>h
 |(c,u)::K,h=>by
  unfold aU at h;rw[Za7] at h;by_cases hc:c=PT
  ·rw[Zai (by simp[hc])] at h
   have nb:b≠PT:=λz=>by subst z;have:=lq b K;unfold aU at this;rw[this] at h;cases h
   simp only[List.lookup,show(b==c)=false from beq_eq_false_iff_ne.mpr (by rw[hc];exact nb)]
   exact pq h
  ·rw[Zah (by simp[hc])] at h
   simp only[List.lookup] at h ⊢;split at h
   ·exact h
   ·exact pq h
theorem Dk{K:Frag}{PT:Addr}{h:Heap}(X:K.In h):(aU K PT).In h:=λb o e=>X b o (pq e)
section
variable{K:Frag}{PT:Addr}
theorem lr{b:Addr}(hb:b≠PT):∀ K:Frag,(aU K PT).lookup b=K.lookup b
 |[]=>rfl
 |(c,u)::K=>by
  unfold aU;rw[Za7];have ih:=lr hb K;unfold aU at ih;by_cases hc:c=PT
  ·rw[Zai (by simp[hc]),ih]
   simp only[List.lookup,show(b==c)=false from beq_eq_false_iff_ne.mpr (by rw[hc];exact hb)]
  ·rw[Zah (by simp[hc])]
   simp only[List.lookup,ih]
theorem dI{b:Addr}{oc:Value}{od:Option Addr}{fd:FuncData}{sl:Array (Option Value)}(tK:K.lookup PT=some (tabObj #[]))(h:K.lookup b=some ⟨oc,od,.func fd,sl⟩):(aU K PT).lookup b=some ⟨oc,od,.func fd,sl⟩:=by
 rw[lr (λz=>by rw[z,tK] at h;cases h) K];exact h
theorem cC{a:Addr}{x:Str}{r:Option Value}(tK:K.lookup PT=some (tabObj #[]))(h:nsIn K a x=some r):nsIn (aU K PT) a x=some r:=by
 unfold nsIn at h ⊢;rw[lr (λz=>by rw[z,tK] at h;cases h) K];exact h
theorem bM{c:Value}{x:Str}(tK:K.lookup PT=some (tabObj #[]))(h:codeIn K c x=true):codeIn (aU K PT) c x=true:=by
 unfold codeIn at h ⊢;cases c with
 |ref c=>
  have hc:c≠PT:=λz=>by
   rw[z] at h;simp only[tK] at h;cases h
  simp only[lr hc K];exact h
 |_=>cases h
theorem bN{b:Addr}{oc:Value}{od:Option Addr}{fd:FuncData}{sl:Array (Option Value)}(h:(aU K PT).lookup b=some ⟨oc,od,.func fd,sl⟩):keepIn (aU K PT) (.ref b)=true:=by
 unfold keepIn;simp only[h]
end
theorem HF{P:Program}{w:World}{K:Frag}{mg:Str->Option Value}{base:Heap}{N:List Str}{q:Str}{scope:Scope}{f:Addr}{cd:Value}{A:Around}{outer:List Env}{s:Shared}{H:Hp}{E:XK}:oE (sE CX0 P w K mg base N q scope f cd A outer s H E) (.builtin "len") (λxs H Q=>∃ x n,xs=[x]/\Qc K x H n/\Q (.int n) H):=dG
end L2
namespace MM
open PySem PySem.Spec PyProof.Rows L2 L2.MP
def Tv{α:Type}(x:Option (Res α))(Q:α->Prop):Prop:=∃ a,x=some (.ok a)/\Q a
def Out.calm:Out->Prop
 |.ex _=>False
 |_=>True
def To(x:Option Out)(Q:Out->Prop):Prop:=∃ o,x=some o/\Out.calm o/\Q o
def Dl(k:Rho->Prop)(Q:Out->Prop):Out->Prop
 |.nx ρ=>k ρ
 |o=>Q o
section
variable{α β γ:Type}{Q:α->Prop}{QS:Out->Prop}{k:β->Prop}{f:Fn PV}{g h:Fn PV}{ρ:Rho}{a:β}{z p:PV}{i:Nat}{s t:Sn}
theorem onNx_nx{k:Rho->Prop}:Dl k QS (.nx ρ)=k ρ:=rfl
theorem onNx_rt{k:Rho->Prop}:Dl k QS (.rt p)=QS (.rt p):=rfl
theorem onNx_ro{k:Rho->Prop}:Dl k QS (.ro p)=QS (.ro p):=rfl
theorem onNx_rd{k:Rho->Prop}:Dl k QS (.rd p)=QS (.rd p):=rfl
theorem onNx_bk{k:Rho->Prop}:Dl k QS (.bk ρ)=QS (.bk ρ):=rfl
theorem onNx_ct{k:Rho->Prop}:Dl k QS (.ct ρ)=QS (.ct ρ):=rfl
theorem tv_some{a:α}:Tv (some (.ok a)) Q=Q a:=by
 refine propext ⟨?_,λq=>⟨a,rfl,q⟩⟩;rintro⟨r',e,q⟩;cases e;exact q
theorem to_nx:To (some (.nx ρ)) QS=QS (.nx ρ):=propext ⟨λ⟨_,e,_,q⟩=>by cases e;exact q,λq=>⟨_,rfl,trivial,q⟩⟩
theorem to_rt:To (some (.rt p)) QS=QS (.rt p):=propext ⟨λ⟨_,e,_,q⟩=>by cases e;exact q,λq=>⟨_,rfl,trivial,q⟩⟩
theorem to_ro:To (some (.ro p)) QS=QS (.ro p):=propext ⟨λ⟨_,e,_,q⟩=>by cases e;exact q,λq=>⟨_,rfl,trivial,q⟩⟩
theorem to_rd:To (some (.rd p)) QS=QS (.rd p):=propext ⟨λ⟨_,e,_,q⟩=>by cases e;exact q,λq=>⟨_,rfl,trivial,q⟩⟩
theorem to_bk:To (some (.bk ρ)) QS=QS (.bk ρ):=propext ⟨λ⟨_,e,_,q⟩=>by cases e;exact q,λq=>⟨_,rfl,trivial,q⟩⟩
theorem to_ct:To (some (.ct ρ)) QS=QS (.ct ρ):=propext ⟨λ⟨_,e,_,q⟩=>by cases e;exact q,λq=>⟨_,rfl,trivial,q⟩⟩
theorem tv_bnd{x:Option (Res β)}{kk:β->Option (Res α)}:Tv (bnd x kk) Q=Tv x (λb=>Tv (kk b) Q):=by
 refine propext ⟨?_,?_⟩
 ·rintro⟨r,e,q⟩;rcases b8 e with⟨z,e1,e2⟩|⟨b,e1,e2⟩
  ·cases e2
  ·exact⟨_,e1,r,e2,q⟩
 ·rintro⟨b,e,q⟩;subst e;exact q
theorem to_bnd{x:Option (Res β)}{kk:β->Option Out}:To (kj x kk) QS=Tv x (λb=>To (kk b) QS):=by
 refine propext ⟨?_,?_⟩
 ·rintro⟨r,e,c,q⟩;rcases dR e with⟨z,e1,rfl⟩|⟨b,e1,e2⟩
  ·exact c.elim
  ·exact⟨_,e1,r,e2,c,q⟩
 ·rintro⟨b,e,q⟩;subst e;exact q
theorem to_seq:To (bU s t ρ) QS=To (s ρ) (Dl (λρ'=>To (t ρ') QS) QS):=by
 refine propext ⟨?_,?_⟩
 ·rintro⟨r,e,c,q⟩;unfold bU at e;split at e
  ·rename_i ρ' h;exact⟨_,h,trivial,r,e,c,q⟩
  ·rename_i x hx;refine⟨r,e,c,?_⟩;cases r with
   |nx ρ'=>exact absurd e (hx ρ')
   |_=>exact q
 ·rintro⟨o,e,c,q⟩;unfold bU To;rw[e];cases o with
  |nx ρ'=>exact q
  |_=>exact⟨_,rfl,c,q⟩
theorem tQ:Tv (none:Option (Res α)) Q=False:=propext ⟨λ⟨_,e,_⟩=>(nomatch e),λh=>h.elim⟩
theorem FP:To none QS=False:=propext ⟨λ⟨_,e,_⟩=>(nomatch e),λh=>h.elim⟩
theorem tv_m2{op:β->γ->Option (Res α)}{f:Fn β}{g:Fn γ}:Tv (m2 op f g ρ) Q=Tv (f ρ) (λa=>Tv (g ρ) (λb=>Tv (op a b) Q)):=by
 unfold m2;simp only[tv_bnd]
theorem tv_m1{op:β->Option (Res α)}{f:Fn β}:Tv (m1 op f ρ) Q=Tv (f ρ) (λa=>Tv (op a) Q):=by unfold m1;rw[tv_bnd]
theorem tv_var{Q:PV->Prop}:Tv (mV i ρ) Q=∃ p,ρ[i]?=some (some (.sh p))/\Q p:=by
 refine propext ⟨?_,λ⟨p,e,q⟩=>⟨_,by unfold mV;rw[e],q⟩⟩
 rintro⟨r,e,q⟩;unfold mV at e;split at e
 ·rename_i p hp;cases e;exact⟨_,hp,q⟩
 ·cases e
theorem tv_lend{Q:PV->Prop}:Tv (mVL i ρ) Q=∃ s,ρ[i]?=some (some s)/\(match s with|.sh p=>Q p|.ow p=>Q p|.dp _=>False):=by
 refine propext ⟨?_,?_⟩
 ·rintro⟨r,e,q⟩;unfold mVL at e;split at e
  ·rename_i p hp;cases e;exact⟨_,hp,q⟩
  ·rename_i p hp;cases e;exact⟨_,hp,q⟩
  ·cases e
 ·rintro⟨s,e,q⟩;cases s with
  |sh p=>exact⟨_,by unfold mVL;rw[e],q⟩
  |ow p=>exact⟨_,by unfold mVL;rw[e],q⟩
  |dp p=>exact q.elim
theorem tv_c{Q:PV->Prop}:Tv (mC p ρ) Q=Q p:=tv_some
theorem tv_view{Q:List PV->Prop}:Tv (p6 f ρ) Q=Tv (f ρ) (λa=>Tv (rQ a) Q):=tv_bnd
theorem tv_viewN{Q:List PV->Prop}:Tv (ux i ρ) Q=Tv (mVL i ρ) (λa=>Tv (rQ a) Q):=tv_bnd
theorem tv_asLst{l:List PV}{Q:List PV->Prop}:Tv (rQ (.lst l)) Q=Q l:=tv_some
theorem tv_nil{Q:List PV->Prop}:Tv (bA ρ) Q=Q []:=tv_some
theorem tv_cons{g:Fn (List PV)}{Q:List PV->Prop}:Tv (aJ f g ρ) Q=Tv (f ρ) (λa=>Tv (g ρ) (λl=>Q (a::l))):=by
 unfold aJ;simp only[tv_bnd,tv_some]
theorem cu{c:Prop}[Decidable c]{a:α}:Tv (if c then some (.ok a) else none) Q=(c/\Q a):=by
 by_cases h:c
 ·rw[Zah h,tv_some];simp[h]
 ·rw[Zai h,tQ];simp[h]
theorem tv_tup{f:Fn (List PV)}{Q:PV->Prop}:Tv (ju f ρ) Q=Tv (f ρ) (λl=>l.length<=sizeLine/\Q (.tup l)):=by
 unfold ju;simp only[tv_bnd,cu]
theorem tv_lst{f:Fn (List PV)}{Q:PV->Prop}:Tv (zm f ρ) Q=Tv (f ρ) (λl=>l.length<=sizeLine/\Q (.lst l)):=by
 unfold zm;simp only[tv_bnd,cu]
theorem tv_call{m:List PV->Option (Res PV)}{f:Fn (List PV)}{Q:PV->Prop}:Tv (bI m f ρ) Q=Tv (f ρ) (λl=>Tv (m l) Q):=tv_bnd
theorem tv_ite{c:Prop}[Decidable c]{x y:Option (Res α)}:Tv (if c then x else y) Q=if c then Tv x Q else Tv y Q:=by split<;>rfl
theorem to_ite{c:Prop}[Decidable c]{x y:Option Out}:To (if c then x else y) QS=if c then To x QS else To y QS:=by split<;>rfl
theorem tv_comp{it:Fn (List PV)}{fr:List (Option Nat)}{tg:PV->Rho->Option Rho}{tst:Fn Bool}{el:Fn PV}{Q:PV->Prop}:Tv (gf it fr tg tst el ρ) Q=Tv (it ρ) (λl=>l.length<=sizeLine/\Tv (dB tg tst el (frR fr ρ) l) (λr=>Q (.lst r))):=by
 unfold gf;rw[tv_bnd];congr 1;funext l
 by_cases hl:l.length<=sizeLine
 ·rw[Zah hl,tv_bnd];simp only[tv_some,hl,true_and]
 ·rw[Zai hl,tQ];simp[hl]
theorem to_next:To (jR ρ) QS=QS (.nx ρ):=to_nx
theorem to_ret:To (gF f ρ) QS=Tv (f ρ) (λp=>QS (.rt p)):=by unfold gF;simp only[to_bnd,to_rt]
theorem to_retO:To (pR f ρ) QS=Tv (f ρ) (λp=>QS (.ro p)):=by unfold pR;simp only[to_bnd,to_ro]
theorem to_setO:To (wk i f ρ) QS=Tv (f ρ) (λp=>QS (.nx (ρ.set i (some (.ow p))))):=by unfold wk;simp only[to_bnd,to_nx]
theorem to_asg{tg:PV->Rho->Option Rho}:To (du f tg ρ) QS=Tv (f ρ) (λp=>∃ ρ',tg p ρ=some ρ'/\QS (.nx ρ')):=by
 unfold du;rw[to_bnd];congr 1;funext a
 cases e:tg a ρ with
 |none=>rw[FP];exact propext ⟨λh=>h.elim,λ⟨_,z,_⟩=>nomatch z⟩
 |some ρ'=>rw[to_nx];exact propext ⟨λq=>⟨ρ',rfl,q⟩,λ⟨_,z,q⟩=>by cases z;exact q⟩
theorem to_asgN:To (du f (gN i) ρ) QS=Tv (f ρ) (λp=>QS (.nx (ρ.set i (some (.sh p))))):=by
 rw[to_asg];congr 1;funext a
 exact propext ⟨λ⟨ρ',e,q⟩=>by cases e;exact q,λq=>⟨_,rfl,q⟩⟩
theorem to_if{c:Fn Bool}:To (oY c s t ρ) QS=Tv (c ρ) (λb=>if b=true then To (s ρ) QS else To (t ρ) QS):=by
 unfold oY;simp only[to_bnd,to_ite]
theorem to_for{it:Fn (List PV)}{tg:PV->Rho->Option Rho}:To (lR it tg s ρ) QS=Tv (it ρ) (λl=>To (loop tg s l ρ) QS):=to_bnd
theorem to_retOw:To (rA i ρ) QS=∃ p,ρ[i]?=some (some (.ow p))/\QS (.ro p):=by
 refine propext ⟨?_,λ⟨p,e,q⟩=>⟨.ro p,by unfold rA ownAt;rw[e],trivial,q⟩⟩
 rintro⟨r,e,c,q⟩;unfold rA at e;split at e
 ·rename_i p hp;cases e;exact⟨p,fY hp,q⟩
 ·cases e
theorem to_app:To (xq i f ρ) QS=∃ l,ρ[i]?=some (some (.ow (.lst l)))/\Tv (f ρ) (λp=>l.length<sizeLine/\QS (.nx (ρ.set i (some (.ow (.lst (l++[p]))))))):=by
 refine propext ⟨?_,?_⟩
 ·rintro⟨r,e,c,q⟩;unfold xq at e;split at e
  ·rename_i l hl;refine⟨l,fY hl,?_⟩;rcases dR e with⟨z,e1,rfl⟩|⟨p,e1,e2⟩
   ·exact c.elim
   ·split at e2
    ·rename_i hlen;cases e2;exact⟨_,e1,hlen,q⟩
    ·cases e2
  ·cases e
 ·rintro⟨l,e,p,e1,h,q⟩;have eo:ownAt i ρ=some (.lst l):=by unfold ownAt;rw[e]
  unfold To xq;rw[eo];exact⟨.nx _,by simp only[e1,kj];exact Zah h,trivial,q⟩
theorem to_frz:To (R8 i s ρ) QS=To (s (Cy i ρ)) QS:=rfl
theorem QW{p:PV}(h:ρ[i]?=some (some (.ow p))):Cy i ρ=ρ.set i (some (.sh p)):=by unfold Cy ownAt;rw[h]
theorem jq{c:Int->Int->Bool}{F:Int->Int->PV}{x y:Int}{Q:PV->Prop}:Tv (MP.opI c F (.int x) (.int y)) Q=(c x y=true/\Q (F x y)):=cu
theorem tv_sub{x y:Int}{Q:PV->Prop}:Tv (En (.int x) (.int y)) Q=Q (.int (x-y)):=by unfold En;rw[jq];simp[cT]
theorem tv_and'{x y:Int}{Q:PV->Prop}:Tv (Eo (.int x) (.int y)) Q=Q (.int (Builtin.bitAnd x y)):=by unfold Eo;rw[jq];simp[cT]
theorem tv_or'{x y:Int}{Q:PV->Prop}:Tv (Jy (.int x) (.int y)) Q=Q (.int (Builtin.bitOr x y)):=by unfold Jy;rw[jq];simp[cT]
theorem tv_gt{x y:Int}{Q:PV->Prop}:Tv (Jz (.int x) (.int y)) Q=Q (.bl (decide (y<x))):=by unfold Jz;rw[jq];simp[cT]
theorem tv_ge{x y:Int}{Q:PV->Prop}:Tv (Ma (.int x) (.int y)) Q=Q (.bl (decide (y<=x))):=by unfold Ma;rw[jq];simp[cT]
theorem tv_div{x y:Int}{Q:PV->Prop}:Tv (fG (.int x) (.int y)) Q=((0<y/\y<1073741824)/\Q (.int (x/y))):=by unfold fG;rw[jq];simp[Qt]
theorem tv_mod{x y:Int}{Q:PV->Prop}:Tv (dw (.int x) (.int y)) Q=(0<y/\Q (.int (x%y))):=by unfold dw;rw[jq];simp[RP]
theorem tv_pow{x y:Int}{Q:PV->Prop}:Tv (oG (.int x) (.int y)) Q=((0<=y/\y<=1000000/\x.natAbs<2^64)/\Q (.int (x^y.toNat))):=by unfold oG;rw[jq];simp[Jx]
theorem tv_shl{x y:Int}{Q:PV->Prop}:Tv (ur (.int x) (.int y)) Q=((0<=y/\y<=1000000/\x.natAbs<2^64)/\Q (.int (x*2^y.toNat))):=by unfold ur;rw[jq];simp[Jx]
theorem tv_shr{x y:Int}{Q:PV->Prop}:Tv (zr (.int x) (.int y)) Q=(0<=y/\Q (.int (x/2^y.toNat))):=by unfold zr;rw[jq];simp[RQ]
theorem tv_add{x y:Int}{Q:PV->Prop}:Tv (cR (.int x) (.int y)) Q=Q (.int (x+y)):=tv_some
theorem tv_addS{x y:Str}{Q:PV->Prop}:Tv (cR (.str x) (.str y)) Q=(x.length+y.length<=sizeLine/\Q (.str (x++y))):=cu
theorem tv_addT{x y:List PV}{Q:PV->Prop}:Tv (cR (.tup x) (.tup y)) Q=((x≠[]/\x.length+y.length<=sizeLine)/\Q (.tup (x++y))):=cu
theorem tv_mul{x y:Int}{Q:PV->Prop}:Tv (pY (.int x) (.int y)) Q=(Cj x y/\Q (.int (x*y))):=by
 show Tv (if Jw x y=true then _ else none) Q=_
 rw[cu];unfold Jw Cj;simp
theorem tv_mulS{z:Str}{n:Int}{Q:PV->Prop}:Tv (pY (.str z) (.int n)) Q=((-(2^63)<=n/\n<2^63/\z.length*n.toNat<=sizeLine)/\Q (.str (Qu z n.toNat))):=cu
theorem tv_lt{x y:Int}{Q:PV->Prop}:Tv (Hk (.int x) (.int y)) Q=Q (.bl (decide (x<y))):=tv_some
theorem tv_ltS{x y:Str}{Q:PV->Prop}:Tv (Hk (.str x) (.str y)) Q=Q (.bl (decide (x.cps.toList<y.cps.toList))):=tv_some
theorem tv_le{x y:Int}{Q:PV->Prop}:Tv (Mf (.int x) (.int y)) Q=Q (.bl (decide (x<=y))):=tv_some
theorem tv_leS{x y:Str}{Q:PV->Prop}:Tv (Mf (.str x) (.str y)) Q=Q (.bl (!(decide (y.cps.toList<x.cps.toList)))):=tv_some
theorem tv_eq{p q:PV}{Q:PV->Prop}:Tv (sJ p q) Q=∃ r,eqF 32 p q=some r/\Q (.bl r):=by
 refine propext ⟨?_,λ⟨r,e,k⟩=>⟨_,by unfold sJ;rw[e],k⟩⟩
 rintro⟨r,e,k⟩;unfold sJ at e;split at e
 ·rename_i b hb;cases e;exact⟨b,hb,k⟩
 ·cases e
theorem tv_ne{p q:PV}{Q:PV->Prop}:Tv (zu p q) Q=∃ r,eqF 32 p q=some r/\Q (.bl (!r)):=by
 refine propext ⟨?_,λ⟨r,e,k⟩=>⟨_,by unfold zu;rw[e],k⟩⟩
 rintro⟨r,e,k⟩;unfold zu at e;split at e
 ·rename_i b hb;cases e;exact⟨b,hb,k⟩
 ·cases e
theorem eqF_int(n:Nat)(i j:Int):eqF n (.int i) (.int j)=some (decide (i=j)):=by cases n<;>rfl
theorem eqF_str(n:Nat)(i j:Str):eqF n (.str i) (.str j)=some (decide (i=j)):=by cases n<;>rfl
theorem eqF_bl(n:Nat)(i j:Bool):eqF n (.bl i) (.bl j)=some (decide (i=j)):=by cases n<;>rfl
theorem tv_eqI{x y:Int}{Q:PV->Prop}:Tv (sJ (.int x) (.int y)) Q=Q (.bl (decide (x=y))):=by rw[tv_eq,eqF_int];simp
theorem tv_eqS{x y:Str}{Q:PV->Prop}:Tv (sJ (.str x) (.str y)) Q=Q (.bl (decide (x=y))):=by rw[tv_eq,eqF_str];simp
theorem tv_neI{x y:Int}{Q:PV->Prop}:Tv (zu (.int x) (.int y)) Q=Q (.bl (!decide (x=y))):=by rw[tv_ne,eqF_int];simp
theorem tv_neS{x y:Str}{Q:PV->Prop}:Tv (zu (.str x) (.str y)) Q=Q (.bl (!decide (x=y))):=by rw[tv_ne,eqF_str];simp
theorem tv_in{p q:PV}{Q:PV->Prop}:Tv (Hl p q) Q=∃ r,inU p q=some r/\Q (.bl r):=by
 refine propext ⟨?_,λ⟨r,e,k⟩=>⟨_,by unfold Hl;rw[e],k⟩⟩
 rintro⟨r,e,k⟩;unfold Hl at e;split at e
 ·rename_i b hb;cases e;exact⟨b,hb,k⟩
 ·cases e
theorem tv_notin{p q:PV}{Q:PV->Prop}:Tv (nM p q) Q=∃ r,inU p q=some r/\Q (.bl (!r)):=by
 refine propext ⟨?_,λ⟨r,e,k⟩=>⟨_,by unfold nM;rw[e],k⟩⟩
 rintro⟨r,e,k⟩;unfold nM at e;split at e
 ·rename_i b hb;cases e;exact⟨b,hb,k⟩
 ·cases e
theorem yg{x:Option PV}{Q:PV->Prop}:Tv (ofO x) Q=∃ p,x=some p/\Q p:=by
 refine propext ⟨?_,λ⟨p,e,k⟩=>⟨_,by subst e;rfl,k⟩⟩
 rintro⟨r,e,k⟩;obtain⟨p,e1,e2⟩:=pZ e;cases e2;exact⟨_,e1,k⟩
theorem tv_ixL{l:List PV}{n:Int}{Q:PV->Prop}:Tv (fZ (.lst l) (.int n)) Q=∃ p,atI l n=some p/\Q p:=yg
theorem tv_ixT{l:List PV}{n:Int}{Q:PV->Prop}:Tv (fZ (.tup l) (.int n)) Q=∃ p,atI l n=some p/\Q p:=yg
theorem tv_ixV{l:List PV}{n:Int}{Q:PV->Prop}:Tv (JB l (.int n)) Q=∃ p,atI l n=some p/\Q p:=yg
theorem tv_ixS{z:Str}{n:Int}{Q:PV->Prop}:Tv (fZ (.str z) (.int n)) Q=(z.length<=sizeLine/\∃ c,atI z.cps.toList n=some c/\Q (.str ⟨#[c]⟩)):=by
 show Tv (if z.length<=sizeLine then _ else none) Q=_
 by_cases hz:z.length<=sizeLine
 ·rw[Zah hz,yg];simp only[hz,true_and];refine propext ⟨?_,λ⟨c,e,k⟩=>⟨_,by rw[e];rfl,k⟩⟩
  rintro⟨p,e,k⟩;cases e1:atI z.cps.toList n with
  |none=>rw[e1] at e;cases e
  |some c=>rw[e1] at e;cases e;exact⟨c,rfl,k⟩
 ·rw[Zai hz];exact propext ⟨λ⟨r,e,q⟩=>(nomatch e),λ⟨z,_⟩=>absurd z hz⟩
theorem tv_lenS{z:Str}{Q:PV->Prop}:Tv (ir (.str z)) Q=(z.length<=sizeLine/\Q (.int z.length)):=cu
theorem tv_lenL{l:List PV}{Q:PV->Prop}:Tv (ir (.lst l)) Q=Q (.int l.length):=tv_some
theorem tv_lenT{l:List PV}{Q:PV->Prop}:Tv (ir (.tup l)) Q=Q (.int l.length):=tv_some
theorem tv_asBl{b:Bool}{Q:Bool->Prop}:Tv (lQ (.bl b)) Q=Q b:=tv_some
theorem tv_opTup{l:List PV}{Q:PV->Prop}:Tv (Ew l) Q=Q (.tup l):=tv_some
theorem tv_cat{l m:List PV}{Q:PV->Prop}:Tv (Er l m) Q=(l.length+m.length<=sizeLine/\Q (.lst (l++m))):=cu
theorem tv_asSeqL{l:List PV}{Q:List PV->Prop}:Tv (jT (.lst l)) Q=Q l:=tv_some
theorem tv_asSeqT{l:List PV}{Q:List PV->Prop}:Tv (jT (.tup l)) Q=Q l:=tv_some
theorem tv_asSeqS{z:Str}{Q:List PV->Prop}:Tv (jT (.str z)) Q=Q (signs z):=tv_some
theorem tv_rng1{j:Int}{Q:List PV->Prop}:Tv (gH [.int j]) Q=((-(2^62)<=j/\j<2^62)/\Q (sO 0 j.toNat)):=cu
theorem tv_enum{l:List PV}{Q:List PV->Prop}:Tv (uw [.lst l]) Q=Q (mq l):=tv_some
theorem tv_pn{Q:Option Int->Prop}:Tv (mPn ρ) Q=Q none:=tv_some
theorem tv_asInt{x:Int}{Q:Option Int->Prop}:Tv (asInt (.int x)) Q=Q (some x):=tv_some
theorem tv_opSlS{x:Str}{a b:Option Int}{Q:PV->Prop}:Tv (JD a b (.str x)) Q=(x.length<=sizeLine/\Q (.str (Txt.slice x a b))):=cu
theorem tv_slS{lo hi:Fn (Option Int)}{Q:PV->Prop}:Tv (JF f lo hi ρ) Q=Tv (f ρ) (λz=>Tv (lo ρ) (λa=>Tv (hi ρ) (λb=>Tv (JD a b z) Q))):=by
 unfold JF;simp only[tv_bnd]
end
section
variable{QS:Out->Prop}{ρ:Rho}{j:Nat}
theorem finIO_nx{p:PV}:(R9 j (some (.nx ρ))=some (.ok p))=(ρ[j]?=some (some (.ow p))):=by
 show((match ownAt j ρ with|some p=>some (Res.ok p)|none=>none)=some (.ok p))=_
 cases h:ownAt j ρ with
 |none=>exact propext ⟨λe=>(nomatch e),λe=>by unfold ownAt at h;rw[e] at h;cases h⟩
 |some q=>exact propext ⟨λe=>by cases e;exact fY h,λe=>by rw[fY h] at e;cases e;rfl⟩
theorem to_never:To (CJ ρ) QS=False:=FP
end
def turn(I:Rho->Prop)(QS:Out->Prop):Out->Prop
 |.nx ρ=>I ρ
 |.ct ρ=>I ρ
 |.bk ρ=>QS (.nx ρ)
 |o=>QS o
theorem turn_nx{I:Rho->Prop}{QS:Out->Prop}{ρ:Rho}:turn I QS (.nx ρ)=I ρ:=rfl
theorem turn_ct{I:Rho->Prop}{QS:Out->Prop}{ρ:Rho}:turn I QS (.ct ρ)=I ρ:=rfl
theorem turn_bk{I:Rho->Prop}{QS:Out->Prop}{ρ:Rho}:turn I QS (.bk ρ)=QS (.nx ρ):=rfl
theorem turn_rt{I:Rho->Prop}{QS:Out->Prop}{p:PV}:turn I QS (.rt p)=QS (.rt p):=rfl
theorem turn_ro{I:Rho->Prop}{QS:Out->Prop}{p:PV}:turn I QS (.ro p)=QS (.ro p):=rfl
theorem turn_rd{I:Rho->Prop}{QS:Out->Prop}{p:PV}:turn I QS (.rd p)=QS (.rd p):=rfl
theorem yh{tg:PV->Rho->Option Rho}{body:Sn}{QS:Out->Prop}(I:Nat->Rho->Prop):∀ {l:List PV}{ρ:Rho},I 0 ρ ->
  (∀ (i:Nat) x ρ,l[i]?=some x->I i ρ->∃ ρ1,tg x ρ=some ρ1/\To (body ρ1) (turn (I (i+1)) QS)) ->
  (∀ ρ',I l.length ρ'->QS (.nx ρ'))->To (loop tg body l ρ) QS:=by
 intro l;induction l generalizing I with
 |nil=>exact λh0 _ hd=>⟨_,rfl,trivial,hd _ h0⟩
 |cons x xs ih=>
  intro ρ h0 hs hd;obtain⟨ρ1,e1,o,e2,c,q⟩:=hs 0 x ρ rfl h0;unfold To;rw[loop,e1];simp only[e2];cases o with
  |nx ρ2=>exact ih (λi=>I (i+1)) q (λi y ρ e=>hs (i+1) y ρ (by simpa using e)) hd
  |ct ρ2=>exact ih (λi=>I (i+1)) q (λi y ρ e=>hs (i+1) y ρ (by simpa using e)) hd
  |bk ρ2=>exact⟨_,rfl,trivial,q⟩
  |rt p=>exact⟨_,rfl,trivial,q⟩
  |ro p=>exact⟨_,rfl,trivial,q⟩
  |rd p=>exact⟨_,rfl,trivial,q⟩
  |ex z=>exact c.elim
theorem rT{x:Option Out}{I:Rho->Prop}{Q:Out->Prop}(h:∀ QS:Out->Prop,(∀ ρ,I ρ->QS (.nx ρ))->To x QS):To x (turn I Q):=h _ λ_ h=>h
theorem FQ{x:Option Out}{I:Rho->Prop}{Q:Out->Prop}(h:∀ QS:Out->Prop,(∀ ρ,I ρ->QS (.nx ρ))->(∀ ρ,I ρ->QS (.ct ρ))->(∀ p,Q (.rt p)->QS (.rt p))->(∀ p,Q (.ro p)->QS (.ro p))->(∀ p,Q (.rd p)->QS (.rd p))->To x QS):To x (turn I Q):=h _ (λ_ h=>h) (λ_ h=>h) (λ_ h=>h) (λ_ h=>h) λ_ h=>h
theorem lJ{x:Option Out}{Q:Out->Prop}(h:∀ QS:Out->Prop,(∀ o,Q o->QS o)->To x QS):To x Q:=h _ λ_ h=>h
theorem dW{j:Nat}{body:Sn}{QS:Out->Prop}(I:Nat->Rho->Prop){l:List PV}{ρ:Rho}(h0:I 0 ρ)
  (hs:∀ (i:Nat) x ρ,l[i]?=some x->I i ρ->To (body (ρ.set j (some (.sh x)))) (turn (I (i+1)) QS))(hd:∀ ρ',I l.length ρ'->QS (.nx ρ')):To (loop (gN j) body l ρ) QS:=
 yh I h0 (λi x ρ e hI=>⟨_,rfl,hs i x ρ e hI⟩) hd
theorem Aj{a b:Nat}{body:Sn}{QS:Out->Prop}(I:Nat->Rho->Prop){l:List PV}{ρ:Rho}(h0:I 0 ρ)
  (hs:∀ (i:Nat) x ρ,l[i]?=some x->I i ρ->To (body ((ρ.set a (some (.sh (.int i)))).set b (some (.sh x)))) (turn (I (i+1)) QS))(hd:∀ ρ',I l.length ρ'->QS (.nx ρ')):To (loop (gT 2 (gsCons (gN a) (gsCons (gN b) gsNil))) body (mq l) ρ) QS:=by
 have hl:(mq l).length=l.length:=by simp[mq]
 refine yh I h0 (λi x ρ e hI=>?_) λρ'=>by rw[hl];exact hd ρ'
 unfold mq at e;rw[List.getElem?_mapIdx] at e;cases h:l[i]? with
 |none=>rw[h] at e;cases e
 |some y=>
  rw[h] at e;cases e;exact⟨_,rfl,hs i y ρ h hI⟩
theorem Kz{a b:Nat}{body:Sn}{QS:Out->Prop}(I:Nat->Rho->Prop){l:List (PV×PV)}{ρ:Rho}(h0:I 0 ρ)
  (hs:∀ (i:Nat) x y ρ,l[i]?=some (x,y)->I i ρ->To (body ((ρ.set a (some (.sh x))).set b (some (.sh y)))) (turn (I (i+1)) QS))(hd:∀ ρ',I l.length ρ'->QS (.nx ρ')):To (loop (gT 2 (gsCons (gN a) (gsCons (gN b) gsNil))) body (l.map λc=>.tup [c.1,c.2]) ρ) QS:=by
 refine yh I h0 (λi x ρ e hI=>?_) λρ'=>by rw[List.length_map];exact hd ρ'
 rw[Zac] at e;cases h:l[i]? with
 |none=>rw[h] at e;cases e
 |some y=>
  rw[h] at e;cases e;exact⟨_,rfl,hs i y.1 y.2 ρ h hI⟩
theorem KC{fc:Fn Bool}{body:Sn}{QS:Out->Prop}(I:Nat->Rho->Prop):∀ {n:Nat}{ρ:Rho},I n ρ ->
  (∀ (n:Nat) ρ,I n ρ->Tv (fc ρ) (λb=>if b=true then 0<n/\To (body ρ) (turn (I (n-1)) QS) else QS (.nx ρ)))->To (pU fc body (n+1) ρ) QS:=by
 intro n;induction n with
 |zero=>
  intro ρ h0 hs;rw[pU,to_bnd];obtain⟨b,e,q⟩:=hs 0 ρ h0;refine⟨b,e,?_⟩;cases b with
  |true=>exact absurd q.1 (Zbv _)
  |false=>exact⟨_,rfl,trivial,q⟩
 |succ n ih=>
  intro ρ h0 hs;rw[pU,to_bnd];obtain⟨b,e,q⟩:=hs (n+1) ρ h0;refine⟨b,e,?_⟩;cases b with
  |false=>exact⟨_,rfl,trivial,q⟩
  |true=>
   obtain⟨_,o,e2,c,q2⟩:=q;show To (if true=true then _ else _) QS
   rw[Zah rfl];simp only[e2];cases o with
   |nx ρ2=>exact ih q2 hs
   |ct ρ2=>exact ih q2 hs
   |bk ρ2=>exact⟨_,rfl,trivial,q2⟩
   |rt p=>exact⟨_,rfl,trivial,q2⟩
   |ro p=>exact⟨_,rfl,trivial,q2⟩
   |rd p=>exact⟨_,rfl,trivial,q2⟩
   |ex z=>exact c.elim
theorem jO{x:Option Out}{r:Res PV}(h:To x λo=>fin (some o)=some r):fin x=some r:=by
 obtain⟨o,e,_,q⟩:=h;rw[e];exact q
theorem nT{x:Option Out}{r:Res PV}(h:To x λo=>p7 (some o)=some r):p7 x=some r:=by
 obtain⟨o,e,_,q⟩:=h;rw[e];exact q
theorem mU{x:Option Out}{P:PV->Prop}(h:To x λo=>∃ p,fin (some o)=some (.ok p)/\P p):∃ p,fin x=some (.ok p)/\P p:=by
 obtain⟨o,e,_,q⟩:=h;rw[e];exact q
theorem Nm{x:Option Out}{P:PV->Prop}(h:To x λo=>∃ p,p7 (some o)=some (.ok p)/\P p):∃ p,p7 x=some (.ok p)/\P p:=by
 obtain⟨o,e,_,q⟩:=h;rw[e];exact q
theorem fin_nx{ρ:Rho}:fin (some (.nx ρ))=some (.ok .non):=rfl
theorem fin_rt{p:PV}:fin (some (.rt p))=some (.ok p):=rfl
theorem finO_ro{p:PV}:p7 (some (.ro p))=some (.ok p):=rfl
theorem Ak{tg:PV->Rho->Option Rho}{tst:Fn Bool}{el:Fn PV}{ρb:Rho}(t:PV->Bool)(f:PV->PV):∀ (l:List PV),
  (∀ x∈l,∃ ρ1,tg x ρb=some ρ1/\tst ρ1=some (.ok (t x))/\(t x=true->el ρ1=some (.ok (f x))))->dB tg tst el ρb l=some (.ok ((l.filter t).map f))
 |[],_=>rfl
 |x::xs,h=>by
  obtain⟨ρ1,e1,e2,e3⟩:=h x List.mem_cons_self;have ih:=Ak t f xs λy hy=>h y (List.mem_cons_of_mem _ hy);rw[dB,e1];simp only[e2,bnd];cases ht:t x with
  |true=>rw[Zah rfl,e3 ht];simp only[ih,Za7,ht,ZbA,Zal]
  |false=>rw[Zai (by decide)];simp only[ih,Za7,ht,Zby,Zbm]
theorem tv_compN{tg:PV->Rho->Option Rho}{tst:Fn Bool}{el:Fn PV}{ρb:Rho}{Q:List PV->Prop}:Tv (dB tg tst el ρb []) Q=Q []:=tv_some
theorem tv_compC{j:Nat}{tst:Fn Bool}{el:Fn PV}{ρb:Rho}{x:PV}{xs:List PV}{Q:List PV->Prop}:Tv (dB (gN j) tst el ρb (x::xs)) Q =
  Tv (tst (ρb.set j (some (.sh x)))) (λb=>if b=true then Tv (el (ρb.set j (some (.sh x)))) (λp=>Tv (dB (gN j) tst el ρb xs) (λr=>Q (p::r))) else Tv (dB (gN j) tst el ρb xs) Q):=by
 rw[dB];simp only[gN,tv_bnd,tv_ite,tv_some]
theorem tv_yes{ρ:Rho}{Q:Bool->Prop}:Tv (jw ρ) Q=Q true:=tv_some
theorem oH{α:Type}{x:Option (Res α)}{q:α}(h:Tv x λp=>p=q):x=some (.ok q):=by
 obtain⟨p,e,rfl⟩:=h;exact e
def szP(w h:Int):PV:=.tup [.int w,.int h]
def cellP(c:Int×Int):PV:=.tup [.int c.1,.int c.2]
theorem snocI(l:List Int)(a:Int):l.map PV.int++[PV.int a]=(l++[a]).map PV.int:=by rw[ZaP];rfl
theorem snocS(l:List Str)(a:Str):l.map PV.str++[PV.str a]=(l++[a]).map PV.str:=by rw[ZaP];rfl
theorem snocC(l:List (Int×Int))(a b:Int):l.map cellP++[PV.tup [.int a,.int b]]=(l++[(a,b)]).map cellP:=by rw[ZaP];rfl
theorem is_non_int:isI .non "int"=some false:=rfl
theorem is_non_bool:isI .non "bool"=some false:=rfl
theorem is_non_str:isI .non "str"=some false:=rfl
theorem is_non_list:isI .non "list"=some false:=rfl
theorem is_non_tuple:isI .non "tuple"=some false:=rfl
theorem is_non_dict:isI .non "dict"=some false:=rfl
theorem is_bl_int{b:Bool}:isI (.bl b) "int"=some true:=rfl
theorem is_bl_bool{b:Bool}:isI (.bl b) "bool"=some true:=rfl
theorem is_bl_str{b:Bool}:isI (.bl b) "str"=some false:=rfl
theorem is_bl_list{b:Bool}:isI (.bl b) "list"=some false:=rfl
theorem is_bl_tuple{b:Bool}:isI (.bl b) "tuple"=some false:=rfl
theorem is_bl_dict{b:Bool}:isI (.bl b) "dict"=some false:=rfl
theorem is_int_int{i:Int}:isI (.int i) "int"=some true:=rfl
theorem is_int_bool{i:Int}:isI (.int i) "bool"=some false:=rfl
theorem is_int_str{i:Int}:isI (.int i) "str"=some false:=rfl
theorem is_int_list{i:Int}:isI (.int i) "list"=some false:=rfl
theorem is_int_tuple{i:Int}:isI (.int i) "tuple"=some false:=rfl
theorem is_int_dict{i:Int}:isI (.int i) "dict"=some false:=rfl
theorem is_str_int{z:Str}:isI (.str z) "int"=some false:=rfl
theorem is_str_bool{z:Str}:isI (.str z) "bool"=some false:=rfl
theorem is_str_str{z:Str}:isI (.str z) "str"=some true:=rfl
theorem is_str_list{z:Str}:isI (.str z) "list"=some false:=rfl
theorem is_str_tuple{z:Str}:isI (.str z) "tuple"=some false:=rfl
theorem is_str_dict{z:Str}:isI (.str z) "dict"=some false:=rfl
theorem is_tup_int{l:List PV}:isI (.tup l) "int"=some false:=rfl
theorem is_tup_bool{l:List PV}:isI (.tup l) "bool"=some false:=rfl
theorem is_tup_str{l:List PV}:isI (.tup l) "str"=some false:=rfl
theorem is_tup_list{l:List PV}:isI (.tup l) "list"=some false:=rfl
theorem is_tup_tuple{l:List PV}:isI (.tup l) "tuple"=some true:=rfl
theorem is_tup_dict{l:List PV}:isI (.tup l) "dict"=some false:=rfl
theorem is_lst_int{l:List PV}:isI (.lst l) "int"=some false:=rfl
theorem is_lst_bool{l:List PV}:isI (.lst l) "bool"=some false:=rfl
theorem is_lst_str{l:List PV}:isI (.lst l) "str"=some false:=rfl
theorem is_lst_list{l:List PV}:isI (.lst l) "list"=some true:=rfl
theorem is_lst_tuple{l:List PV}:isI (.lst l) "tuple"=some false:=rfl
theorem is_lst_dict{l:List PV}:isI (.lst l) "dict"=some false:=rfl
theorem Al{α:Type}{g:α->PV}[DecidableEq α](h:∀ a b,eqF 31 (g a) (g b)=some (decide (a=b)))(a:α):∀ l:List α,inF (g a) (l.map g)=some (decide (a∈l))
 |[]=>rfl
 |x::xs=>by
  rw[Zal,inF,h x a,Al h a xs];simp only[ZaW,Bool.decide_or];congr 2
  exact decide_eq_decide.mpr ⟨λe=>e.symm,λe=>e.symm⟩
theorem FT{α:Type}{g:α->PV}[DecidableEq α](h:∀ a b,eqF 31 (g a) (g b)=some (decide (a=b)))(a:α)(l:List α)[Decidable (a∈l)]:inF (g a) (l.map g)=some (decide (a∈l)):=by
 rw[Al h a l];congr 1
 exact decide_eq_decide.mpr Iff.rfl
theorem Np{α β:Type}(f:α->β)(l:List α)(i:Int):atI (l.map f) i=(atI l i).map f:=by
 unfold atI;rw[List.length_map];cases ixN l.length i<;>simp
theorem HJ{ns:List Int}{i:Int}(h0:0<=i)(h:i<ns.length):atI (ns.map PV.int) i=some (.int (ns.getD i.toNat 0)):=by
 obtain⟨v,e1,e2⟩:=uh (xs:=ns.map PV.int) h0 (by rw[List.length_map];exact h)
 rw[e1];rw[Zac] at e2;have hl:i.toNat<ns.length:=by lia
 rw[Zaa hl] at e2;rw[Zae,Zaa hl];exact e2.symm
theorem atI_0{p:PV}{l:List PV}:atI (p::l) 0=some p:=iR (j:=0) rfl
theorem atI_1{p q:PV}{l:List PV}:atI (p::q::l) 1=some q:=iR (j:=1) rfl
theorem atI_2{p q r:PV}{l:List PV}:atI (p::q::r::l) 2=some r:=iR (j:=2) rfl
theorem atI_3{p q r s:PV}{l:List PV}:atI (p::q::r::s::l) 3=some s:=iR (j:=3) rfl
def ofL(l:List Nat):Str:=⟨l.toArray⟩
theorem qz(l:List Nat):(ofL l).length=l.length:=List.size_toArray ..
theorem tv_lstI{G:List Int->Int}{l:List PV}{Q:PV->Prop}:Tv (oZ G l) Q=∃ n ns,fC l=some (n::ns)/\Q (.int (G (n::ns))):=by
 refine propext ⟨?_,λ⟨n,ns,e,k⟩=>⟨_,by unfold oZ;rw[e],k⟩⟩
 rintro⟨r,e,k⟩;unfold oZ at e;split at e
 ·rename_i n ns h;cases e;exact⟨n,ns,h,k⟩
 ·cases e
theorem tv_newD{ρ:Rho}{Q:PV->Prop}:Tv (Ey ρ) Q=Q (.dk []):=tv_some
theorem is_dk_int{l:List (Key×PV)}:isI (.dk l) "int"=some false:=rfl
theorem is_dk_str{l:List (Key×PV)}:isI (.dk l) "str"=some false:=rfl
section
variable{ρ:Rho}{h:Fn PV}{i:Nat}{Q:PV->Prop}{d k p:PV}{l:List PV}
theorem QX:Tv (asD p) Q=(p.isD=true/\Q p):=cu
theorem tv_viewDN:Tv (gR i ρ) Q=Tv (mVL i ρ) (λp=>p.isD=true/\Q p):=by unfold gR;rw[tv_bnd];simp only[QX]
theorem Nq{α:Type}{o:Option α}{F:α->PV}:Tv (o.map λr=>Res.ok (F r)) Q=∃ r,o=some r/\Q (F r):=by
 cases o with
 |none=>exact propext ⟨(λ⟨_,e,_⟩=>by cases e),(λ⟨_,e,_⟩=>by cases e)⟩
 |some r=>exact propext ⟨λ⟨_,e,q⟩=>by cases e;exact⟨r,rfl,q⟩,λ⟨_,e,q⟩=>by cases e;exact⟨_,rfl,q⟩⟩
theorem tv_opDGet:Tv (kI d k) Q=∃ p,qe d k=some (some p)/\Q p:=by
 unfold kI;split
 ·rename_i p h;rw[h,tv_some];exact propext ⟨λq=>⟨p,rfl,q⟩,λ⟨_,e,q⟩=>by cases e;exact q⟩
 ·rename_i h;rw[tQ];exact propext ⟨λz=>z.elim,λ⟨p,e,_⟩=>(h p e).elim⟩
theorem tv_opDNotIn:Tv (my k d) Q=∃ r,qe d k=some r/\Q (.bl (!r.isSome)):=by unfold my;rw[Nq]
theorem tv_dictP:Tv (kJ d l) Q=∃ ps d',jB l=some ps/\gU d ps=some d'/\Q d':=by
 unfold kJ;split
 ·rename_i ps h;rw[h];refine propext ⟨?_,?_⟩
  ·rintro⟨r,e,q⟩;cases h2:gU d ps with
   |none=>rw[h2] at e;cases e
   |some d'=>rw[h2] at e;cases e;exact⟨ps,_,rfl,h2,q⟩
  ·rintro⟨ps',d',e1,e2,q⟩;cases e1;exact⟨d',by rw[e2];rfl,q⟩
 ·rename_i h;rw[tQ];exact propext ⟨λz=>z.elim,λ⟨ps,_,e,_⟩=>by rw[h] at e;cases e⟩
end
section
variable{l:List (Key×PV)}{t:List (List Key×PV)}{ks:List PV}{n:Int}{z:Str}{p:PV}
theorem dF_int:qe (.dk l) (.int n)=some (cU l (.inl n)):=rfl
theorem dF_str:qe (.dk l) (.str z)=some (cU l (.inr z)):=rfl
theorem dF_tup:qe (.dt t) (.tup ks)=(kE ks).map (cU t):=rfl
theorem QZ:Mq (.dk l) (.str z) p=if l.length<sizeLine then some (.dk (p8 l (.inr z) p)) else none:=rfl
theorem isD_dk:(PV.dk l).isD=true:=rfl
theorem isD_dt:(PV.dt t).isD=true:=rfl
end
section
variable{f:Fn PV}{ρ:Rho}{Q:PV->Prop}{QS:Out->Prop}{i:Nat}{p:PV}
theorem tv_deep:Tv (Fb f ρ) Q=Tv (f ρ) (λp=>∃ l,p=.lst l/\l.all PV.still=true/\Q (.lst l)):=by
 unfold Fb;rw[tv_bnd];congr 1;funext p
 refine propext ⟨?_,?_⟩
 ·rintro⟨r,e,q⟩;cases p with
  |lst l=>
   have e:(if l.all PV.still=true then some (Res.ok (PV.lst l)) else none)=some (.ok r):=e;split at e
   ·rename_i h;cases e;exact⟨l,rfl,h,q⟩
   ·cases e
  |_=>cases e
 ·rintro⟨l,rfl,h,q⟩;exact⟨_,Zah h,q⟩
theorem to_setD:To (zG i f ρ) QS=Tv (f ρ) (λp=>QS (.nx (ρ.set i (some (.dp p))))):=by unfold zG;simp only[to_bnd,to_nx]
theorem to_retD:To (Fe f ρ) QS=Tv (f ρ) (λp=>QS (.rd p)):=by unfold Fe;simp only[to_bnd,to_rd]
theorem to_retDp:To (o9 i ρ) QS=∃ p,ρ[i]?=some (some (.dp p))/\QS (.rd p):=by
 refine propext ⟨?_,λ⟨p,e,q⟩=>⟨.rd p,by unfold o9 CQ;rw[e],trivial,q⟩⟩
 rintro⟨r,e,c,q⟩;unfold o9 at e;split at e
 ·rename_i p hp;cases e;exact⟨p,jC hp,q⟩
 ·cases e
theorem finT_rd:vD (some (.rd p))=some (.ok p):=rfl
theorem FW{x:Option Out}{r:Res PV}(h:To x λo=>vD (some o)=some r):vD x=some r:=by
 obtain⟨o,e,_,q⟩:=h;rw[e];exact q
theorem Nr{x:Option Out}{P:PV->Prop}(h:To x λo=>∃ p,vD (some o)=some (.ok p)/\P p):∃ p,vD x=some (.ok p)/\P p:=by
 obtain⟨o,e,_,q⟩:=h;rw[e];exact q
end
section
variable{ρ:Rho}{Q:PV->Prop}{QS:Out->Prop}{i:Nat}{s:Sn}{p:PV}
theorem tv_dkeys{l:List (Key×PV)}{Q:List PV->Prop}:Tv (tD (.dk l)) Q=Q (uG l):=tv_some
theorem tv_ditems{l:List (Key×PV)}{Q:List PV->Prop}:Tv (mG (.dk l)) Q=Q (mF l):=tv_some
def FZ(QS:Out->Prop):Out->Prop
 |.rd _=>False
 |o=>QS o
theorem holdQ_nx:FZ QS (.nx ρ)=QS (.nx ρ):=rfl
theorem holdQ_rt:FZ QS (.rt p)=QS (.rt p):=rfl
theorem holdQ_ro:FZ QS (.ro p)=QS (.ro p):=rfl
theorem to_hold:To (uF i s ρ) QS=∃ p,ρ[i]?=some (some (.sh p))/\p.isD=true/\To (s ρ) (FZ QS):=by
 refine propext ⟨?_,λ⟨p,e,d,o,e2,c,q⟩=>⟨o,?_,c,?_⟩⟩
 ·rintro⟨o,e,c,q⟩;unfold uF at e;split at e
  ·rename_i p hp;split at e
   ·rename_i d;refine⟨p,hp,d,o,?_⟩;split at e
    ·cases e
    ·rename_i x hx;refine⟨e,c,?_⟩;cases o with
     |rd y=>exact(hx y e).elim
     |_=>exact q
   ·cases e
  ·cases e
 ·unfold uF;rw[e];simp only;rw[Zah d,e2];cases o with
  |rd y=>exact q.elim
  |_=>rfl
 ·cases o with
  |rd y=>exact q.elim
  |_=>exact q
theorem tv_abs{x:Int}:Tv (Eu (.int x)) Q=Q (.int (if x<0 then -x else x)):=tv_some
theorem tv_mulL{x y:Int}:Tv (mH (.int x) (.int y)) Q=((x.natAbs<2^9000/\y.natAbs<2^9000)/\Q (.int (x*y))):=by unfold mH;rw[jq];simp[O6]
end
theorem Ga{f:Fn PV}{ρ:Rho}{Q:PV->Prop}:Tv (zP f ρ) Q=Tv (f ρ) (λp=>p.xT=true/\Q p):=by
 unfold zP;rw[tv_bnd];congr 1;funext p
 refine propext ⟨?_,λ⟨c,q⟩=>⟨p,Zah c,q⟩⟩;rintro⟨r,e,q⟩;split at e
 ·rename_i c;cases e;exact⟨c,q⟩
 ·cases e
def pC:Sn:=
 (gF (m2 cR (m2 pY (m2 fZ (mV 1) (mC (.int 1))) (m2 fZ (mV 0) (mC (.int 0)))) (m2 fZ (mV 1) (mC (.int 0)))))
def gK:List PV->Option (Res PV)
 |[a0,a1]=>fin (pC (startR [a0,a1] 0))
 |_=>none
def pD:Sn:=
 (gF (m2 sJ (m2 Eo (m2 zr (mV 1) (bI gK (aJ (mV 0) (aJ (mV 2) bA)))) (mC (.int 1))) (mC (.int 1))))
def lu:List PV->Option (Res PV)
 |[a0,a1,a2]=>fin (pD (startR [a0,a1,a2] 0))
 |_=>none
def uZ:Sn:=
 (du (m2 Jy (mV 2) (m2 ur (mC (.int 1)) (bI gK (aJ (mV 0) (aJ (mV 3) bA))))) (gN 2))
def u0:Sn:=
 (gF (mV 2))
def u5:Sn:=
 (bU (du (mC (.int 0)) (gN 2))
   (bU (lR (m1 jT (mV 1)) (gN 3)
    uZ)
   u0))
def qC:List PV->Option (Res PV)
 |[a0,a1]=>fin (u5 (startR [a0,a1] 2))
 |_=>none
def Am:Sn:=
 (gF (m2 fZ (mV 0) (mC (.int 2))))
def An:Sn:=
 (gF (mV 3))
def Ao:Sn:=
 (oY (m1 lQ (m2 sJ (mVL 2) (mVL 1)))
     An
     jR)
def Aq:Sn:=
 (gF (mV 1))
def Ar:Sn:=
 (bU (lR (m1 jT (m2 fZ (mV 0) (mC (.int 2)))) (gT 2 (gsCons (gN 2) (gsCons (gN 3) gsNil)))
    Ao)
   Aq)
def yj:Sn:=
 (bU (oY (m1 lQ (m2 sJ (m2 fZ (mV 0) (mC (.int 0))) (mC (.str "cover"))))
    Am
    jR)
   Ar)
def ym:List PV->Option (Res PV)
 |[a0,a1]=>fin (yj (startR [a0,a1] 2))
 |_=>none
def oJ:Sn:=
 (du (bI ym (aJ (m2 fZ (m2 fZ (mV 0) (mC (.int 1))) (mV 3)) (aJ (mV 2) bA))) (gN 2))
def oK:Sn:=
 (gF (mV 2))
def jE:Sn:=
 (bU (du (m2 fZ (mV 0) (mC (.int 0))) (gN 2))
   (bU (lR (m1 jT (mV 1)) (gN 3)
    oJ)
   oK))
def eO:List PV->Option (Res PV)
 |[a0,a1]=>fin (jE (startR [a0,a1] 2))
 |_=>none
def nU:Sn:=
 (gF (ju (aJ (m1 ir (m2 fZ (mV 0) (mC (.int 0)))) (aJ (m1 ir (mVL 0)) bA))))
def nW:List PV->Option (Res PV)
 |[a0]=>fin (nU (startR [a0] 0))
 |_=>none
def mW:Sn:=
 (du (m2 Er (ux 1) (p6 (gf (m1 jT (mV 1)) [none,some 2] (gN 0) jw (m2 Df (mV 0) (ju (aJ (mV 1) bA)))))) (gN 1))
def mX:Sn:=
 (pR (m1 (lg (QT (ju (aJ (m1 ir (mVL 0)) (aJ (mV 0) bA))))) (ux 1)))
def iW:Sn:=
 (bU (du (zm (aJ (ju bA) bA)) (gN 1))
   (bU (lR (m1 gH (aJ (mV 0) bA)) (gN 2)
    mW)
   mX))
def iY:List PV->Option (Res PV)
 |[a0]=>p7 (iW (startR [a0] 2))
 |_=>none
def iw:Sn:=
 (jZ 1 (bI eO (aJ (mV 0) (aJ (mV 2) bA))) (mV 2))
def iy:Sn:=
 (o9 1)
def dO:Sn:=
 (bU (zG 1 (zP Ey))
   (bU (lR (m1 jT (bI iY (aJ (m1 ir (m2 fZ (mV 0) (mC (.int 1)))) bA))) (gN 2)
    iw)
   iy))
def cY:List PV->Option (Res PV)
 |[a0]=>vD (dO (startR [a0] 2))
 |_=>none
def iK:Sn:=
 (jZ 1 (mV 5) (ju (aJ (mV 4) (aJ (mV 2) bA))))
def iM:Sn:=
 (lR (m1 uw (aJ (mV 3) bA)) (gT 2 (gsCons (gN 4) (gsCons (gN 5) gsNil)))
     iK)
def iQ:Sn:=
 (o9 1)
def eF:Sn:=
 (bU (zG 1 (zP Ey))
   (bU (lR (m1 uw (aJ (mV 0) bA)) (gT 2 (gsCons (gN 2) (gsCons (gN 3) gsNil)))
    iM)
   iQ))
def cI:List PV->Option (Res PV)
 |[a0]=>vD (eF (startR [a0] 5))
 |_=>none
def u6:Sn:=
 CJ
def mY:Sn:=
 (oY (m1 lQ (m2 my (mV 4) (gR 2)))
     u6
     jR)
def mZ:Sn:=
 (pR (m1 (kJ (.dk [])) (p6 (gf (m1 jT (m1 qx (gR 3))) [none,some 2] (gN 0) jw (ju (aJ (mV 0) (aJ (m2 kI (gR 1) (mV 0)) bA)))))))
def iZ:Sn:=
 (bU (du (bI cY (aJ (mV 0) bA)) (gN 2))
   (bU (du (bI cI (aJ (mV 1) bA)) (gN 3))
   (bU (uF 3 (lR (m1 tD (mV 3)) (gN 4)
    mY))
   mZ)))
def jb:List PV->Option (Res PV)
 |[a0,a1]=>p7 (iZ (startR [a0,a1] 3))
 |_=>none
def fL:Sn:=
 (pR (m1 (kJ (.dk [])) (p6 (gf (m1 mG (bI jb (aJ (mV 0) (aJ (mV 1) bA)))) [none,none] (gT 2 (gsCons (gN 0) (gsCons (gN 1) gsNil))) jw (ju (aJ (mV 0) (aJ (m2 fZ (mV 1) (mC (.int 0))) bA)))))))
def fM:List PV->Option (Res PV)
 |[a0,a1]=>p7 (fL (startR [a0,a1] 0))
 |_=>none
def eZ:Sn:=
 (bU (du (bI nW (aJ (mV 0) bA)) (gN 1))
   (pR (m1 (kJ (.dk [])) (p6 (gf (m1 mG (bI cI (aJ (mV 0) bA))) [none,none,some 1] (gT 2 (gsCons (gN 0) (gsCons (gN 1) gsNil))) jw (ju (aJ (mV 0) (aJ (bI qC (aJ (mV 2) (aJ (mV 1) bA))) bA))))))))
def fj:List PV->Option (Res PV)
 |[a0]=>p7 (eZ (startR [a0] 1))
 |_=>none
def qD:Sn:=
 (du (m2 Jy (mV 3) (m2 kI (gR 0) (mV 4))) (gN 3))
def qF:Sn:=
 (oY (m1 lQ (m2 Hl (mVL 2) (m2 kI (gR 1) (mV 4))))
     qD
     jR)
def qG:Sn:=
 (gF (mV 3))
def lw:Sn:=
 (bU (du (mC (.int 0)) (gN 3))
   (bU (uF 0 (lR (m1 tD (mV 0)) (gN 4)
    qF))
   qG))
def lz:List PV->Option (Res PV)
 |[a0,a1,a2]=>fin (lw (startR [a0,a1,a2] 2))
 |_=>none
def jF:Sn:=
 (bU (du (bI fj (aJ (mV 1) bA)) (gN 3))
   (pR (gf (m1 gH (aJ (m1 ir (m2 fZ (mV 0) (mC (.int 1)))) bA)) [none,some 3,some 2] (gN 0) jw (bI lz (aJ (mV 1) (aJ (mV 2) (aJ (mV 0) bA)))))))
def jG:List PV->Option (Res PV)
 |[a0,a1,a2]=>p7 (jF (startR [a0,a1,a2] 1))
 |_=>none
def lA:Sn:=
 (gF (m1 Ew (p6 (gf (m1 uw (aJ (mV 1) bA)) [none,none,some 0,some 2] (gT 2 (gsCons (gN 0) (gsCons (gN 1) gsNil))) (m1 lQ (bI lu (aJ (mV 2) (aJ (mV 1) (aJ (mV 3) bA))))) (mV 0)))))
def lB:List PV->Option (Res PV)
 |[a0,a1,a2]=>fin (lA (startR [a0,a1,a2] 0))
 |_=>none
def gV:Sn:=
 (pR (gf (m1 gH (aJ (m2 fZ (mV 1) (mC (.int 0))) bA)) [none,some 0,some 1,some 2,some 3] (gN 0) jw (bI eO (aJ (mV 1) (aJ (bI lB (aJ (mV 2) (aJ (mV 3) (aJ (ju (aJ (mV 0) (aJ (mV 4) bA))) bA)))) bA)))))
def gW:List PV->Option (Res PV)
 |[a0,a1,a2,a3]=>p7 (gV (startR [a0,a1,a2,a3] 0))
 |_=>none
def nY:Sn:=
 (Fe (gf (m1 gH (aJ (m2 fZ (mV 1) (mC (.int 1))) bA)) [none,some 0,some 1,some 2] (gN 0) jw (Fb (bI gW (aJ (mV 1) (aJ (mV 2) (aJ (mV 3) (aJ (mV 0) bA))))))))
def gM:List PV->Option (Res PV)
 |[a0,a1,a2]=>vD (nY (startR [a0,a1,a2] 0))
 |_=>none
def j7:Sn:=
 (gF (m2 fZ (mV 0) (mV 1)))
def j8:Sn:=
 (gF (mC (.int 0)))
def jr:Sn:=
 (bU (oY (m1 lQ (m2 Hk (mV 1) (m1 ir (mVL 0))))
    j7
    jR)
   j8)
def bF:List PV->Option (Res PV)
 |[a0,a1]=>fin (jr (startR [a0,a1] 0))
 |_=>none
def jc:Sn:=
 (gF (m2 dw (m2 mH (m2 cR (m2 cR (m2 dw (mV 0) (m2 oG (mC (.int 10)) (mC (.int 30)))) (m2 mH (mV 1) (mV 1))) (mC (.int 1))) (mC (.int 314159265358979323846264338327))) (m2 cR (m2 oG (mC (.int 10)) (mC (.int 30))) (mC (.int 57)))))
def fu:List PV->Option (Res PV)
 |[a0,a1]=>fin (jc (startR [a0,a1] 0))
 |_=>none
def iH:Sn:=
 (gF (mV 3))
def iI:Sn:=
 (gF (bI fu (aJ (bI fu (aJ (mV 3) (aJ (mV 2) bA))) (aJ (m2 cR (mV 2) (mC (.int 1))) bA))))
def dZ:Sn:=
 (bU (du (m1 Eu (bI bF (aJ (mV 0) (aJ (mV 1) bA)))) (gN 3))
   (bU (oY (m1 lQ (m2 Ma (mV 3) (m2 oG (mC (.int 10)) (mC (.int 18)))))
    iH
    jR)
   iI))
def bV:List PV->Option (Res PV)
 |[a0,a1,a2]=>fin (dZ (startR [a0,a1,a2] 1))
 |_=>none
def jH:Sn:=
 (gF (m2 cR (m2 cR (JF (mC (.str "mm")) mPn (m1 asInt (mV 0))) (m2 fZ (mC (.str "qwertyuiopasdfghjklzxcvbn")) (m2 dw (mV 1) (mC (.int 25))))) (JF (mC (.str "mm")) (m1 asInt (mV 0)) mPn)))
def eQ:List PV->Option (Res PV)
 |[a0,a1]=>fin (jH (startR [a0,a1] 0))
 |_=>none
def m5:Sn:=
 (xq 2 (ju (aJ (mV 5) (aJ (m2 fZ (mV 1) (m2 dw (m2 fG (mV 3) (mC (.int 97))) (m1 ir (mVL 1)))) bA))))
def jt:Sn:=
 (du (m2 fG (mV 3) (mC (.int 9409))) (gN 3))
def m6:Sn:=
 (bU (du (m2 fZ (mV 1) (m2 dw (mV 3) (m1 ir (mVL 1)))) (gN 5))
    (bU (oY (m1 lQ (m2 nM (mVL 5) (gf (ux 2) [none] (gN 0) jw (m2 fZ (mV 0) (mC (.int 0))))))
     m5
     jR)
    jt))
def m7:Sn:=
 (gF (m1 Ew (ux 2)))
def jd:Sn:=
 (bU (wk 2 (zm bA))
   (bU (du (m2 fG (mV 0) (mC (.int 1000))) (gN 3))
   (bU (lR (m1 gH (aJ (m2 cR (mC (.int 1)) (m2 dw (mV 0) (mC (.int 8)))) bA)) (gN 4)
    m6)
   m7)))
def gm:List PV->Option (Res PV)
 |[a0,a1]=>fin (jd (startR [a0,a1] 4))
 |_=>none
def m8:Sn:=
 (xq 4 (ju (aJ (mC (.str "cover")) (aJ (mV 7) (aJ (m2 fZ (mV 3) (m2 dw (m2 fG (mV 6) (mC (.int 10))) (m1 ir (mVL 3)))) bA)))))
def m9:Sn:=
 (xq 4 (ju (aJ (mC (.str "glaze")) (aJ (mV 7) (aJ (bI gm (aJ (m2 fG (mV 6) (mC (.int 10))) (aJ (mV 3) bA))) bA)))))
def ni:Sn:=
 (bU (du (bI bV (aJ (mV 0) (aJ (m2 cR (mC (.int 2)) (mV 5)) (aJ (m2 cR (mC (.int 2)) (mV 5)) bA)))) (gN 6))
    (bU (du (bI eQ (aJ (m2 dw (m2 cR (mV 2) (mC (.int 1))) (mC (.int 3))) (aJ (m2 cR (m2 fG (mV 1) (mC (.int 7))) (m2 pY (mC (.int 11)) (mV 5))) bA))) (gN 7))
    (oY (m1 lQ (m2 Hk (m2 dw (mV 6) (mC (.int 5))) (mC (.int 2))))
     m8
     m9)))
def nj:Sn:=
 (R8 4 (gF (ju (aJ (ju (aJ (m2 fZ (mV 3) (m2 dw (m2 fG (mV 1) (mC (.int 1000))) (m1 ir (mVL 3)))) (aJ (mV 4) bA))) (aJ (mV 3) bA)))))
def je:Sn:=
 (bU (du (m2 fG (bI bV (aJ (mV 0) (aJ (mC (.int 0)) (aJ (mC (.int 0)) bA)))) (mC (.int 2))) (gN 1))
   (bU (du (m2 dw (mV 1) (mC (.int 3))) (gN 2))
   (bU (du (gf (m1 gH (aJ (m2 cR (mC (.int 3)) (m2 dw (m2 fG (mV 1) (mC (.int 100))) (mC (.int 4)))) bA)) [none,some 2,some 1] (gN 0) jw (bI eQ (aJ (mV 1) (aJ (m2 cR (m2 fG (mV 2) (mC (.int 3))) (m2 pY (mC (.int 7)) (mV 0))) bA)))) (gN 3))
   (bU (wk 4 (zm bA))
   (bU (lR (m1 gH (aJ (m2 cR (mC (.int 1)) (m2 dw (bI bF (aJ (mV 0) (aJ (mC (.int 1)) bA))) (mC (.int 8)))) bA)) (gN 5)
    ni)
   nj)))))
def gn:List PV->Option (Res PV)
 |[a0]=>fin (je (startR [a0] 7))
 |_=>none
def oM:Sn:=
 (gF (ju (aJ (m2 cR (mC (.int 1)) (m2 dw (m2 fG (mV 0) (mC (.int 9))) (mC (.int 24)))) (aJ (m2 cR (mC (.int 1)) (m2 dw (m2 fG (mV 0) (mC (.int 300))) (mC (.int 24)))) bA))))
def oN:Sn:=
 (gF (ju (aJ (m2 cR (mC (.int 1)) (m2 dw (m2 fG (mV 0) (mC (.int 9))) (mC (.int 6)))) (aJ (m2 cR (mC (.int 1)) (m2 dw (m2 fG (mV 0) (mC (.int 70))) (mC (.int 5)))) bA))))
def jJ:Sn:=
 (bU (oY (m1 lQ (m2 sJ (m2 dw (mV 0) (mC (.int 9))) (mC (.int 5))))
    oM
    jR)
   oN)
def iz:List PV->Option (Res PV)
 |[a0]=>fin (jJ (startR [a0] 0))
 |_=>none
def lK:Sn:=
 (du (m2 cR (m2 mH (mV 6) (m2 oG (mC (.int 10)) (mC (.int 30)))) (m2 dw (m2 mH (mV 5) (m2 cR (m2 mH (mV 7) (mV 7)) (mC (.int 1)))) (m2 cR (m2 oG (mC (.int 10)) (mC (.int 30))) (mC (.int 57))))) (gN 6))
def lL:Sn:=
 (bU (du (m2 dw (mV 6) (m2 ur (mC (.int 1)) (mV 2))) (gN 6))
     (du (m2 JB (p6 (zm (aJ (mV 6) (aJ (mC (.int 0)) (aJ (m2 En (m2 ur (mC (.int 1)) (mV 2)) (mC (.int 1))) (aJ (mV 6) (aJ (mV 6) bA))))))) (m2 dw (m2 fG (mV 5) (mC (.int 7))) (mC (.int 5)))) (gN 6)))
def lM:Sn:=
 (bU (du (mC (.int 0)) (gN 6))
     (bU (lR (m1 gH (aJ (m2 cR (mC (.int 1)) (m2 fG (mV 2) (mC (.int 90)))) bA)) (gN 7)
      lK)
     lL))
def iJ:Sn:=
 (xq 3 (mV 6))
def lN:Sn:=
 (bU (du (bI bV (aJ (mV 0) (aJ (m2 cR (mC (.int 12)) (mV 4)) (aJ (m2 cR (mC (.int 30)) (mV 4)) bA)))) (gN 5))
    (bU (du (m2 dw (mV 5) (m2 ur (mC (.int 1)) (mV 2))) (gN 6))
    (bU (oY (m1 lQ (m2 Hk (m1 Eu (bI bF (aJ (mV 0) (aJ (m2 cR (mC (.int 12)) (mV 4)) bA)))) (m2 oG (mC (.int 10)) (mC (.int 18)))))
     lM
     jR)
    iJ)))
def lO:Sn:=
 (rA 3)
def gY:Sn:=
 (bU (wk 3 (zm bA))
   (bU (lR (m1 gH (aJ (mV 1) bA)) (gN 4)
    lN)
   lO))
def fJ:List PV->Option (Res PV)
 |[a0,a1,a2]=>p7 (gY (startR [a0,a1,a2] 5))
 |_=>none
def oO:Sn:=
 (bU (du (m2 cR (mV 1) (m2 dw (mV 0) (mC (.int 2)))) (gN 1))
    (du (m2 fG (mV 0) (mC (.int 2))) (gN 0)))
def oR:Sn:=
 (gF (mV 1))
def jK:Sn:=
 (bU (du (mC (.int 0)) (gN 1))
   (bU (pU (m1 lQ (m2 Jz (mV 0) (mC (.int 0))))
    oO 1000)
   oR))
def eU:List PV->Option (Res PV)
 |[a0]=>fin (jK (startR [a0] 1))
 |_=>none
def Nt:Sn:=
 (gF (mC (.bl false)))
def Nu:Sn:=
 (gF (mC (.bl false)))
def Gb:Sn:=
 (bU (du (m2 cR (m2 pY (mV 9) (mV 3)) (mV 10)) (gN 11))
     (bU (du (gf (m1 jT (mV 5)) [none,some 11] (gN 0) (m1 lQ (m2 sJ (m2 dw (m2 zr (mV 0) (mV 1)) (mC (.int 2))) (mC (.int 1)))) (mV 0)) (gN 12))
     (oY (m1 lQ (m2 Jz (m1 ir (m2 kI (gR 7) (m2 fZ (m2 fZ (mV 6) (mV 9)) (mV 10)))) (m1 ir (mVL 12))))
      Nu
      jR)))
def Gd:Sn:=
 (lR (m1 gH (aJ (mV 3) bA)) (gN 10)
     Gb)
def Ge:Sn:=
 (bU (du (m1 (oZ List.sum) (p6 (gf (m1 jT (mV 8)) [none] (gN 0) jw (bI eU (aJ (mV 0) bA))))) (gN 13))
   (gF (m2 Mf (mV 13) (m1 (oZ List.sum) (p6 (gf (m1 jT (mV 5)) [none] (gN 0) jw (bI eU (aJ (mV 0) bA))))))))
def Gf:Sn:=
 (bU (lR (m1 gH (aJ (mV 4) bA)) (gN 9)
    Gd)
   Ge)
def Gg:Sn:=
 (bU (du (bI gn (aJ (mV 0) bA)) (gT 2 (gsCons (gN 1) (gsCons (gN 2) gsNil))))
   (bU (du (bI iz (aJ (m2 dw (bI bF (aJ (mV 0) (aJ (mC (.int 11)) bA))) (m2 oG (mC (.int 10)) (mC (.int 9)))) bA)) (gT 2 (gsCons (gN 3) (gsCons (gN 4) gsNil))))
   (bU (du (bI fJ (aJ (mV 0) (aJ (m1 ir (m2 fZ (mV 1) (mC (.int 1)))) (aJ (m2 pY (mV 3) (mV 4)) bA)))) (gN 5))
   (bU (du (bI gM (aJ (mV 1) (aJ (ju (aJ (mV 3) (aJ (mV 4) bA))) (aJ (mV 5) bA)))) (gN 6))
   (bU (du (bI fM (aJ (mV 1) (aJ (mV 6) bA))) (gN 7))
   (bU (du (bI jG (aJ (mV 1) (aJ (mV 6) (aJ (mV 7) bA)))) (gN 8))
   (bU (oY (m1 lQ (m2 zu (bI gM (aJ (mV 1) (aJ (ju (aJ (mV 3) (aJ (mV 4) bA))) (aJ (mV 8) bA)))) (mVL 6)))
    Nt
    jR)
   Gf)))))))
def wM:List PV->Option (Res PV)
 |[a0]=>fin (Gg (startR [a0] 13))
 |_=>none
local macro_rules|`(tactic| walk_at "rd")=>do
 let ids:=("onNx_nx onNx_rt onNx_ro onNx_rd onNx_bk onNx_ct tv_some to_nx to_rt to_ro to_rd to_bk to_ct tv_ite to_ite turn_nx turn_ct turn_bk turn_rt turn_ro turn_rd tv_bnd to_bnd to_seq tv_m2 tv_m1 tv_var tv_lend tv_c tv_view tv_viewN tv_asLst tv_nil tv_cons tv_tup tv_lst tv_call tv_comp tv_compN tv_compC tv_yes to_next to_ret to_retO to_hold holdQ_nx holdQ_rt holdQ_ro tv_dkeys tv_ditems to_setO to_setD to_retD to_retDp tv_deep to_asgN to_asg to_if to_for to_retOw to_app to_frz tv_newD tv_viewDN tv_opDGet tv_opDNotIn tv_dictP tv_mulL tv_abs dF_int dF_str dF_tup isD_dk isD_dt is_dk_int is_dk_str tv_lstI finIO_nx to_never tv_sub tv_and' tv_or' tv_gt tv_ge tv_div tv_mod tv_pow tv_shl tv_shr tv_add tv_addS tv_addT tv_mul tv_mulS tv_lt tv_ltS tv_le tv_leS tv_eqI tv_eqS tv_neI tv_neS tv_eq tv_ne tv_in tv_notin tv_ixL tv_ixT tv_ixV tv_ixS tv_lenS tv_lenL tv_lenT tv_asBl tv_opTup tv_cat tv_asSeqL tv_asSeqT tv_asSeqS tv_rng1 tv_enum tv_pn tv_asInt tv_slS tv_opSlS startR fin_nx fin_rt finO_ro finT_rd gN gT gsCons gsNil szP cellP List.map_cons List.map_nil List.replicate_succ List.replicate_zero List.cons_append List.nil_append List.append_nil List.getElem?_cons_zero List.getElem?_cons_succ List.set_cons_zero List.set_cons_succ List.length_cons List.length_nil Nat.zero_le true_and and_true Option.some.injEq Sl.sh.injEq Sl.ow.injEq Sl.dp.injEq Res.ok.injEq PV.int.injEq PV.str.injEq PV.bl.injEq PV.lst.injEq PV.tup.injEq exists_eq_left' exists_eq_left exists_eq and_assoc exists_and_left if_true if_false not_true_eq_false not_false_eq_true Bool.false_eq_true Bool.not_true Bool.not_false decide_eq_true_eq Bool.not_eq_true' decide_eq_false_iff_not reduceCtorEq is_non_int is_non_bool is_non_str is_non_list is_non_tuple is_non_dict is_bl_int is_bl_bool is_bl_str is_bl_list is_bl_tuple is_bl_dict is_int_int is_int_bool is_int_str is_int_list is_int_tuple is_int_dict is_str_int is_str_bool is_str_str is_str_list is_str_tuple is_str_dict is_tup_int is_tup_bool is_tup_str is_tup_list is_tup_tuple is_tup_dict is_lst_int is_lst_bool is_lst_str is_lst_list is_lst_tuple is_lst_dict Int.reduceAdd Int.reduceSub Int.reduceMul Int.reduceNeg Int.reduceToNat atI_0 atI_1 atI_2 atI_3 snocI snocS snocC eqF_int eqF_str eqF_bl frR shOnly".splitOn " ").toArray.map λs=>Lean.mkIdent s.toName
 `(tactic| simp(maxSteps:=2000000) only[$[$ids:ident],*])
theorem lC(ns:List Int)(i:Int)(i0:0<=i):∃ n:Int,bF [.lst (ns.map .int),.int i]=some (.ok (.int n)):=by
 suffices h:∃ p,bF [.lst (ns.map .int),.int i]=some (.ok p)/\∃ n,p=.int n by
  obtain⟨p,e,n,rfl⟩:=h;exact⟨n,e⟩
 refine mU ?_;unfold jr;walk_at "rd"
 refine vB (λh=>?_) (λh=>?_)
 ·unfold j7;walk_at "rd"
  exact⟨_,HJ i0 (by rw[List.length_map] at h;exact h),_,rfl⟩
 ·unfold j8;walk_at "rd"
  exact⟨_,rfl⟩
structure Sz(w h:Int):Prop where
 w0:1<=w
 w1:w<=24
 h0:1<=h
 h1:h<=24
theorem Sz.mul{w h:Int}(s:Sz w h):1<=w*h/\w*h<=576:=by
 obtain⟨a,b,c,d⟩:=s;have e1:1*1<=w*h:=Int.mul_le_mul a c (by decide) (by lia)
 have e2:w*h<=24*24:=Int.mul_le_mul b d (by lia) (by decide)
 lia
theorem Sz.at{w h c r:Int}(_:Sz w h)(c0:0<=c)(c1:c<w)(r0:0<=r)(r1:r<h):0<=r*w+c/\r*w+c<w*h:=by
 have e1:0<=r*w:=Int.mul_nonneg r0 (by lia)
 have e2:(r+1)*w<=h*w:=Int.mul_le_mul_of_nonneg_right (by lia) (by lia)
 rw[Int.add_mul,Int.one_mul] at e2;rw[Int.mul_comm w h];lia
structure Cell(w h c r:Int):Prop where
 c0:0<=c
 c1:c<w
 r0:0<=r
 r1:r<h
theorem Cell.pl{w h c r:Int}(z:Cell w h c r):(r*w+c).toNat=Mth.pl w.toNat (c,r)/\0<=r*w+c:=by
 obtain⟨c0,c1,r0,r1⟩:=z;obtain⟨a,rfl⟩:=ZbD c0;obtain⟨b,rfl⟩:=ZbD r0;obtain⟨v,rfl⟩:=ZbD (show 0<=w by omega)
 unfold Mth.pl;simp only[Za0];have e:(b:Int)*(v:Int)+(a:Int)=((b*v+a:Nat):Int):=by simp
 rw[e,Za0];exact⟨rfl,Zbw _⟩
theorem wN(a b:Nat):Builtin.bitOr (a:Int) (b:Int)=((a ||| b:Nat):Int):=by
 have n1:∀ x:Nat,¬0<=Builtin.bitNot (x:Int):=λx=>by unfold Builtin.bitNot;omega
 unfold Builtin.bitOr;rw[bitAnd_nn (n1 a) (n1 b),bitNot_bitNot,bitNot_bitNot,bitNot_bitNot,Za0,Za0]
theorem Nv(n p:Nat):decide (Builtin.bitAnd ((n:Int)/2^p) 1=1)=n.testBit p:=by
 have e:(n:Int)/2^p=((n/2^p:Nat):Int):=by simp
 rw[e,bitAnd_pp (Zbw _) (by decide),Za0,show(1:Int).toNat=1 from rfl,Mth.Lr]
 cases n.testBit p<;>rfl
theorem lD{lo:Int}{n i:Nat}{x:PV}(h:(sO lo n)[i]?=some x):i<n/\x=.int (lo+(i:Int)):=by
 have hi:i<n:=by simpa[sO] using cH h
 unfold sO at h;rw[Zac,Za3 hi] at h;exact⟨hi,(Zad h).symm⟩
theorem take_snoc{α:Type}{l:List α}{i:Nat}{x:α}(h:l[i]?=some x):l.take (i+1)=l.take i++[x]:=by
 rw[List.take_succ,h];rfl
theorem Av{w h c r:Int}(sz:Sz w h)(cl:Cell w h c r):gK [.tup [.int w,.int h],.tup [.int c,.int r]]=some (.ok (.int (r*w+c))):=by
 refine jO ?_;unfold pC;walk_at "rd"
 have:=cl.r0;have:=cl.r1;have:=sz.h1;exact .inl ⟨by lia,by lia⟩
theorem Q0{w h c r:Int}(sz:Sz w h)(cl:Cell w h c r)(n:Nat):lu [.tup [.int w,.int h],.int n,.tup [.int c,.int r]]=some (.ok (.bl (n.testBit (Mth.pl w.toNat (c,r))))):=by
 refine jO ?_;unfold pD;walk_at "rd"
 obtain⟨e1,e2⟩:=cl.pl;rw[Av sz cl];walk_at "rd"
 rw[e1,Nv];exact⟨e2,rfl⟩
theorem HN{w h:Int}(sz:Sz w h)(ps:List (Int×Int))(hc:∀ c∈ps,Cell w h c.1 c.2):qC [.tup [.int w,.int h],.lst (ps.map cellP)]=some (.ok (.int (Mth.qX w.toNat ps))):=by
 refine jO ?_;unfold u5;walk_at "rd"
 refine dW (λi ρ=>∃ v,ρ=[some (.sh (.tup [.int w,.int h])),some (.sh (.lst (ps.map cellP))),some (.sh (.int (Mth.qX w.toNat (ps.take i)))),v]) ⟨none,rfl⟩ ?_ ?_
 ·rintro i x ρ hx ⟨v,rfl⟩;rw[Zac] at hx;cases hd:ps[i]? with
  |none=>rw[hd] at hx;cases hx
  |some d=>
   rw[hd] at hx;cases hx;have cl:=hc d (ZaC hd);obtain⟨e1,e2⟩:=cl.pl;have hm:=sz.mul;have ha:=sz.at cl.c0 cl.c1 cl.r0 cl.r1;unfold uZ;walk_at "rd"
   rw[Av sz cl];walk_at "rd"
   have e3:(1:Int)*2^Mth.pl w.toNat (d.1,d.2)=((2^Mth.pl w.toNat d:Nat):Int):=by simp
   rw[e1,e3,wN,take_snoc hd,Mth.GX];exact⟨by lia,by lia,by decide,_,rfl⟩
 ·rintro ρ ⟨v,rfl⟩;unfold u0;walk_at "rd"
  rw[ZaX (by simp)]
def isL(c:Nat):Bool:=decide (97<=c/\c<=122)
def Tu(z:Str):Bool:=decide (1<=z.length/\z.length<=8)&&z.cps.toList.all isL
theorem Q3(n:Nat)(u:Option Int):Builtin.Str.strSliceIndices none u 1 n=Builtin.Str.strSliceIndices (some 0) u 1 n:=by
 have e:max (0:Int) (min 0 (n:Int))=0:=by omega
 simp[Builtin.Str.strSliceIndices,e]
theorem KD(n:Nat)(l:Option Int):Builtin.Str.strSliceIndices l none 1 n=Builtin.Str.strSliceIndices l (some (n:Int)) 1 n:=by
 have e:max (0:Int) (min (n:Int) (n:Int))=n:=by omega
 have e2:¬((n:Int)<0):=by omega
 simp[Builtin.Str.strSliceIndices,e,e2]
theorem Aw(x:Str){a b:Nat}(hab:a<=b)(hb:b<=x.length):Txt.slice x (some (a:Int)) (some (b:Int))=ofL ((x.cps.toList.drop a).take (b-a)):=by
 unfold Txt.slice;rw[PySem.StrLaws.sliced_plain x hab hb];split
 ·rename_i h;rw[PySem.StrLaws.strSliceIndices_plain hab hb] at h;have hl:b-a=x.length:=by simpa using h
  have ea:a=0:=by omega
  subst ea;rw[Zbe,Nat.sub_zero,ZaX (by rw[Za6];show x.length<=b;omega)]
  rfl
 ·rfl
theorem KH(x:Str){b:Nat}(hb:b<=x.length):Txt.slice x none (some (b:Int))=ofL (x.cps.toList.take b):=by
 have:=Aw x (a:=0) (Zbb b) hb;rw[Zbe,Nat.sub_zero] at this;rw[<-this];unfold Txt.slice;rw[Q3];rfl
theorem Dm(x:Str){a:Nat}(ha:a<=x.length):Txt.slice x (some (a:Int)) none=ofL (x.cps.toList.drop a):=by
 have:=Aw x ha (Zag x.length);rw[ZaX (by rw[List.length_drop,Za6];exact Zag _)] at this
 rw[<-this];unfold Txt.slice;rw[KD]
theorem Ny(a b:List Nat):ofL a++ofL b=ofL (a++b):=by
 apply Str.ext'
 apply Array.toList_inj.mp
 show((ofL a).cps++(ofL b).cps).toList=_
 rw[ZaI];rfl
theorem Gh(c:Nat):(⟨#[c]⟩:Str)=ofL [c]:=rfl
def prP(p:Str×Str):PV:=.tup [.str p.1,.str p.2]
inductive Ink where
 |cov (name colour:Str)
 |glz (name:Str) (ps:List (Str×Str))
def Ink.name:Ink->Str
 |.cov n _=>n
 |.glz n _=>n
def lE:Ink->PV
 |.cov n c=>.tup [.str "cover",.str n,.str c]
 |.glz n ps=>.tup [.str "glaze",.str n,.tup (ps.map prP)]
theorem Sv(l:List (Str×Str))(a b:Str):l.map prP++[PV.tup [.str a,.str b]]=(l++[(a,b)]).map prP:=by rw[ZaP];rfl
theorem HQ{a b:Nat}{body:Sn}{QS:Out->Prop}(I:Nat->Rho->Prop){l:List (Str×Str)}{ρ:Rho}(h0:I 0 ρ)
  (hs:∀ (i:Nat) p ρ,l[i]?=some p->I i ρ->To (body ((ρ.set a (some (.sh (.str p.1)))).set b (some (.sh (.str p.2))))) (turn (I (i+1)) QS))(hd:∀ ρ',I l.length ρ'->QS (.nx ρ')):To (loop (gT 2 (gsCons (gN a) (gsCons (gN b) gsNil))) body (l.map prP) ρ) QS:=by
 have:=Kz (a:=a) (b:=b) (body:=body) (QS:=QS) I (l:=l.map λp=>(PV.str p.1,PV.str p.2)) (ρ:=ρ) h0 (λi x y ρ hx hI=>by
  rw[Zac] at hx;cases hp:l[i]? with
  |none=>rw[hp] at hx;cases hx
  |some p=>rw[hp] at hx;cases hx;exact hs i p ρ hp hI) (by rw[List.length_map];exact hd)
 rw[Zbo] at this;exact this
def Q4(cols:List Str)(ps:List (Str×Str)):Prop:=ps.length<=8/\(∀ p∈ps,p.1∈cols/\p.2∈cols)/\(ps.map (·.1)).Nodup
def Gi(cols:List Str):Ink->Prop
 |.cov _ c=>c∈cols
 |.glz _ ps=>ps≠[]/\Q4 cols ps
theorem yo{cs:List Str}{i:Int}(h0:0<=i)(h1:i<cs.length):∃ y,atI (cs.map PV.str) i=some (.str y)/\y∈cs/\cs[i.toNat]?=some y:=by
 obtain⟨y,e1,e2⟩:=uh (xs:=cs) h0 h1;exact⟨y,by rw[Np,e1];rfl,ZaC e2,e2⟩
theorem Nz(a:Str)(l:List Str):inF (.str a) (l.map PV.str)=some (decide (a∈l)):=FT (g:=PV.str) (λa b=>eqF_str 31 a b) a l
theorem Ax{f:PV->PV->Option Bool}:∀ {l:List PV},(∀ x∈l,f x x=some true)->eqL f l l=some true
 |[],_=>rfl
 |x::xs,h=>by rw[eqL,h x List.mem_cons_self,Ax λy hy=>h y (List.mem_cons_of_mem _ hy)];rfl
theorem Ay{n:Nat}{l:List PV}(h:∀ x∈l,eqF n x x=some true):eqF (n+1) (.lst l) (.lst l)=some true:=by
 exact(Zah rfl).trans (Ax h)
theorem KJ(n:Nat)(z:Str):eqF n (.str z) (.str z)=some true:=by rw[eqF_str,Zaz rfl]
theorem jL{α:Type}{j:Nat}{el:Fn PV}{ρb:Rho}(g f:α->PV):∀ (l:List α),(∀ a∈l,Tv (el (ρb.set j (some (.sh (g a))))) λp=>p=f a)->dB (gN j) jw el ρb (l.map g)=some (.ok (l.map f))
 |[],_=>rfl
 |a::l,h=>by
  have e1:=oH (h a List.mem_cons_self);have ih:=jL g f l λb hb=>h b (List.mem_cons_of_mem _ hb);rw[Zal,dB];simp only[gN,jw,bnd,ZbA,e1,ih,Zal]
theorem Gj{α:Type}{j:Nat}{tst:Fn Bool}{el:Fn PV}{ρb:Rho}(g f:α->PV)(t:α->Bool):∀ (l:List α),(∀ a∈l,Tv (tst (ρb.set j (some (.sh (g a))))) λb=>b=t a)->(∀ a∈l,t a=true->Tv (el (ρb.set j (some (.sh (g a))))) λp=>p=f a)->dB (gN j) tst el ρb (l.map g)=some (.ok ((l.filter t).map f))
 |[],_,_=>rfl
 |a::l,h,h2=>by
  have e0:=oH (h a List.mem_cons_self);have ih:=Gj g f t l (λb hb=>h b (List.mem_cons_of_mem _ hb)) λb hb=>h2 b (List.mem_cons_of_mem _ hb);rw[Zal,dB];simp only[gN,bnd,e0,ih];cases ht:t a with
  |true=>
   have e1:=oH (h2 a List.mem_cons_self ht);simp only[ZbA,e1,Za7,ht,Zal]
  |false=>simp only[Zby,Zbm,Za7,ht]
def lkp(ps:List (Str×Str))(c:Str):Str:=match ps.find? (λp=>decide (p.1=c)) with
 |some p=>p.2
 |none=>c
def Dn:Ink->Str->Str
 |.cov _ d,_=>d
 |.glz _ ps,c=>lkp ps c
theorem NB(k:Ink)(c:Str):ym [lE k,.str c]=some (.ok (.str (Dn k c))):=by
 refine jO (x:=yj (startR [lE k,.str c] 2)) ?_;unfold yj;cases k with
 |cov n d=>
  unfold lE;walk_at "rd"
  unfold Am;walk_at "rd"
  rfl
 |glz n ps=>
  unfold lE;walk_at "rd"
  rw[Zai (by decide)]
  unfold Ar;walk_at "rd"
  refine HQ (λi ρ=>∃ v2 v3,ρ=[some (.sh (lE (.glz n ps))),some (.sh (.str c)),v2,v3]/\(ps.take i).find? (λp=>decide (p.1=c))=none) ⟨none,none,rfl,rfl⟩ ?_ ?_
  ·rintro i p ρ hp ⟨v2,v3,rfl,hf⟩;have tk:ps.take (i+1)=ps.take i++[p]:=by rw[List.take_succ,hp];rfl
   unfold Ao;walk_at "rd"
   refine vB (λh=>?_) λh=>?_
   ·unfold An;walk_at "rd"
    have e:ps.find? (λp=>decide (p.1=c))=some p:=by
     have hs:ps=ps.take (i+1)++ps.drop (i+1):=(ZaE _ _).symm;rw[hs,List.find?_append,tk,List.find?_append,hf];simp[h]
    show _=lkp ps c
    unfold lkp;rw[e]
   ·refine⟨_,_,rfl,?_⟩;rw[tk,List.find?_append,hf];simp[h]
  ·rintro ρ ⟨v2,v3,rfl,hf⟩;rw[List.take_length] at hf;unfold Aq;walk_at "rd"
   show _=lkp ps c
   unfold lkp;rw[hf]
def Az:Ink:=.cov ⟨#[]⟩ ⟨#[]⟩
def bT(inks:List Ink)(paper:Str)(st:List Nat):Str:=st.foldl (λc n=>Dn (inks.getD n Az) c) paper
theorem qH(paper:Str)(inks:List Ink)(st:List Nat)(hs:∀ n∈st,n<inks.length):eO [.tup [.str paper,.lst (inks.map lE)],.tup (st.map λ(n:Nat)=>PV.int (n:Int))]=some (.ok (.str (bT inks paper st))):=by
 refine jO (x:=jE (startR [.tup [.str paper,.lst (inks.map lE)],.tup (st.map λ(n:Nat)=>PV.int (n:Int))] 2)) ?_;unfold jE;walk_at "rd"
 refine dW (λi ρ=>∃ v3,ρ=[some (.sh (.tup [.str paper,.lst (inks.map lE)])),some (.sh (.tup (st.map λ(n:Nat)=>PV.int (n:Int)))),some (.sh (.str (bT inks paper (st.take i)))),v3]) ⟨none,rfl⟩ ?_ ?_
 ·rintro i x ρ hx ⟨v3,rfl⟩;rw[Zac] at hx;cases hn:st[i]? with
  |none=>rw[hn] at hx;cases hx
  |some n=>
   rw[hn] at hx;cases hx;have hl:=hs n (ZaC hn);unfold oJ;walk_at "rd"
   refine⟨lE (inks.getD n Az),?_,?_⟩
   ·refine iR ?_;rw[Zac,Zaa hl,Zae,Zaa hl];rfl
   ·rw[NB];walk_at "rd"
    refine⟨some (.sh (.int n)),?_⟩;rw[List.take_succ,hn];unfold bT;rw[List.foldl_append];rfl
 ·rintro ρ ⟨v3,rfl⟩;rw[List.length_map,List.take_length];unfold oK;walk_at "rd"
theorem Ba{α:Type}(g:α->PV)(d:α)(l:List α):mq (l.map g)=(List.range l.length).map λ(i:Nat)=>PV.tup [.int (i:Int),g (l.getD i d)]:=by
 apply Zbs
 intro i;unfold mq;rw[List.getElem?_mapIdx,Zac,Zac];by_cases h:i<l.length
 ·rw[Zaa h,Za3 h];show some (PV.tup [PV.int (i:Int),g l[i]])=some (PV.tup [PV.int (i:Int),g (l.getD i d)])
  rw[Zae,Zaa h];rfl
 ·rw[ZaH (by omega),ZaH (by rw[List.length_range];omega)]
  rfl
def d9(states:List Nat)(p:Nat):List Nat:=(List.range states.length).filter λk=>(states.getD k 0).testBit p
def dX(l:List Nat):PV:=.lst (l.map λ(n:Nat)=>PV.int (n:Int))
theorem Bb{w h c r:Int}(sz:Sz w h)(cl:Cell w h c r)(states:List Nat)(hl:states.length<=1000):lB [.tup [.int w,.int h],dX states,.tup [.int c,.int r]]=some (.ok (.tup ((d9 states (Mth.pl w.toNat (c,r))).map λ(n:Nat)=>PV.int (n:Int)))):=by
 refine jO (x:=lA (startR [.tup [.int w,.int h],dX states,.tup [.int c,.int r]] 0)) ?_;unfold lA dX;walk_at "rd"
 rw[Ba (λn=>PV.int ((n:Nat):Int)) 0 states];refine⟨by rw[List.length_map,List.length_range];exact ZaF (bw hl),?_⟩
 rw[Ak (λx=>match x with|.tup [_,.int s]=>s.toNat.testBit (Mth.pl w.toNat (c,r))|_=>false) (λx=>match x with|.tup [a,_]=>a|_=>.non)]
 ·walk_at "rd"
  rw[List.filter_map,Zbo];unfold d9;rfl
 ·intro x hx;obtain⟨i,hi,rfl⟩:=Za1.mp hx;refine⟨_,rfl,?_,?_⟩
  ·refine oH ?_;walk_at "rd"
   rw[Q0 sz cl];walk_at "rd"
   rw[Za0]
  ·intro _;refine oH ?_;walk_at "rd"
def gO(w h:Nat)(f:Nat->Nat->Str):PV:=.lst ((List.range h).map λr=>.lst ((List.range w).map λc=>.str (f c r)))
theorem qI(n:Nat):sO 0 n=(List.range n).map λi=>PV.int ((i:Nat):Int):=by
 unfold sO;exact Za2 λi _=>by rw[Int.zero_add]
theorem u9{w h:Int}(sz:Sz w h)(paper:Str)(inks:List Ink)(states:List Nat)(hl:states.length<=inks.length)(h8:inks.length<=8){r:Nat}(hr:r<h.toNat) :
  gW [.tup [.str paper,.lst (inks.map lE)],.tup [.int w,.int h],dX states,.int r]=some (.ok (.lst ((List.range w.toNat).map λc=>.str (bT inks paper (d9 states (r*w.toNat+c)))))):=by
 have w0:=sz.w0;have w1:=sz.w1;refine nT (x:=gV (startR [.tup [.str paper,.lst (inks.map lE)],.tup [.int w,.int h],dX states,.int r] 0)) ?_;unfold gV;walk_at "rd"
 refine⟨by omega,by omega,by rw[cG];exact ZaF (bw (by omega)),?_⟩
 rw[qI,jL (λi=>PV.int ((i:Nat):Int)) (λc=>.str (bT inks paper (d9 states (r*w.toNat+c)))) _ λc hc=>?_]
 ·walk_at "rd"
 ·have hc:=ZaA.mp hc;walk_at "rd"
  refine⟨by decide,?_⟩
  rw[Bb sz (c:=(c:Int)) (r:=(r:Int)) ⟨by omega,by omega,by omega,by omega⟩ states (by omega)]
  walk_at "rd"
  rw[show Mth.pl w.toNat ((c:Int),(r:Int))=r*w.toNat+c from rfl];rw[qH paper inks _ λn hn=>by
   have:=ZaA.mp (Zbh.mp hn).1;omega]
  walk_at "rd"
theorem Q5:10^250<=2^9000:=by
 have h:(10^50)^5<=(2^167)^5:=Nat.pow_le_pow_left (by decide) 5
 rw[<-Nat.pow_mul,<-Nat.pow_mul] at h;exact ZaQ h (Nat.pow_le_pow_right (by decide) (by decide))
theorem jP{x:Int}(h0:0<=x)(h:x<10^250):x.natAbs<2^9000:=by
 refine Zap ?_ Q5;have e:((x.natAbs:Nat):Int)=x:=by omega
 have:((x.natAbs:Nat):Int)<((10^250:Nat):Int):=by rw[e];exact h
 exact Int.ofNat_lt.mp this
theorem tR(c k:Int)(k0:0<=k)(k1:k<=1000):∃ n:Nat,fu [.int c,.int k]=some (.ok (.int (n:Int)))/\n<10^30+57:=by
 suffices h:∃ p,fu [.int c,.int k]=some (.ok p)/\∃ n:Nat,p=.int (n:Int)/\n<10^30+57 by
  obtain⟨p,e,n,rfl,h⟩:=h;exact⟨n,e,h⟩
 show ∃ p,fin (jc (startR [.int c,.int k] 0))=_/\_
 refine mU ?_;unfold jc;have kk:k*k<=1000*1000:=Int.mul_le_mul k1 k1 k0 (by decide)
 have kk0:0<=k*k:=Int.mul_nonneg k0 k0;walk_at "rd"
 have m0:0<=c%10^30:=ZaU _ (by decide)
 have m1:c%10^30<10^30:=ZaJ _ (by decide)
 generalize c%10^30=x at m0 m1
 have q0:0<=(x+k*k+1)*314159265358979323846264338327%(10^30+57):=ZaU _ (by decide)
 have q1:(x+k*k+1)*314159265358979323846264338327%(10^30+57)<10^30+57:=ZaJ _ (by decide)
 generalize (x+k*k+1)*314159265358979323846264338327%(10^30+57)=y at q0 q1
 have hb:(10:Int)^30+1000*1000+1<10^250:=by decide +kernel
 exact⟨by decide,by decide,by decide,by decide,jP k0 (by omega),jP k0 (by omega),jP (by omega) (by omega),jP (by decide) (by decide +kernel),by decide,by decide,by decide,by decide,y.toNat,by omega,by omega⟩
theorem Sx(x:Int)(c:Nat):0<1*(2:Int)^((c:Int)).toNat/\∃ s:Nat,x%(1*2^((c:Int)).toNat)=(s:Int)/\s<2^c:=by
 have two:1*(2:Int)^((c:Int)).toNat=((2^c:Nat):Int):=by simp
 have p:(0:Int)<((2^c:Nat):Int):=Int.ofNat_lt.mpr (Nat.pow_pos (by decide))
 rw[two];have h0:=ZaU x (Int.ne_of_gt p);have h1:=ZaJ x p;exact⟨p,(x%((2^c:Nat):Int)).toNat,by omega,by omega⟩
theorem grow{t r j:Nat}(h:t<10^(31*j))(hr:r<10^30+57):t*10^30+r<10^(31*(j+1)):=by
 rw[Nat.mul_add,Nat.pow_add];have p:1<=10^(31*j):=Nat.pow_pos (by decide)
 generalize 10^(31*j)=P at *
 omega
theorem grown{t j:Nat}(h:t<10^(31*j))(hj:j<=7):(t:Int)<10^250:=by
 have:t<10^250:=Zap h (Nat.pow_le_pow_right (by decide) (by omega))
 have:((t:Nat):Int)<((10^250:Nat):Int):=Int.ofNat_lt.mpr this;exact this
theorem HR{w h:Nat}(f:Nat->Nat->Str)(h0:0<h):nW [gO w h f]=some (.ok (.tup [.int w,.int h])):=by
 refine jO (x:=nU (startR [gO w h f] 0)) ?_;unfold nU gO;walk_at "rd"
 have e0:atI ((List.range h).map λr=>PV.lst ((List.range w).map λc=>.str (f c r))) ((0:Nat):Int)=some (PV.lst ((List.range w).map λc=>.str (f c 0))):=iR (by rw[Zac,Za3 h0];rfl)
 refine⟨_,e0,?_⟩;walk_at "rd"
 refine⟨by decide,?_⟩
 rw[List.length_map,List.length_range,List.length_map,List.length_range]
theorem rU{w h:Int}(sz:Sz w h)(paper:Str)(inks:List Ink)(states:List Nat)(hl:states.length<=inks.length)(h8:inks.length<=8) :
  gM [.tup [.str paper,.lst (inks.map lE)],.tup [.int w,.int h],dX states]=some (.ok (gO w.toNat h.toNat λc r=>bT inks paper (d9 states (r*w.toNat+c)))):=by
 have h0:=sz.h0;have h1:=sz.h1;refine FW (x:=nY (startR [.tup [.str paper,.lst (inks.map lE)],.tup [.int w,.int h],dX states] 0)) ?_;unfold nY;walk_at "rd"
 refine⟨by omega,by omega,by rw[cG];exact ZaF (bw (by omega)),?_⟩
 rw[qI,jL (λi=>PV.int ((i:Nat):Int)) (λr=>.lst ((List.range w.toNat).map λc=>.str (bT inks paper (d9 states (r*w.toNat+c))))) _ λr hr=>?_]
 ·walk_at "rd"
  rfl
 ·walk_at "rd"
  rw[u9 sz paper inks states hl h8 (ZaA.mp hr)];walk_at "rd"
  exact Zbd.mpr λx hx=>by obtain⟨c,_,rfl⟩:=Za1.mp hx;rfl
theorem Gk{α:Type}{j:Nat}{el:Fn PV}{ρb:Rho}{g:α->PV}:∀ (l:List α),(∀ a∈l,∃ y,Tv (el (ρb.set j (some (.sh (g a))))) (λp=>p=.str y))->∃ ys:List Str,dB (gN j) jw el ρb (l.map g)=some (.ok (ys.map PV.str))/\ys.length=l.length
 |[],_=>⟨[],rfl,rfl⟩
 |a::l,h=>by
  obtain⟨y,e⟩:=h a List.mem_cons_self;obtain⟨ys,e2,hl⟩:=Gk l λb hb=>h b (List.mem_cons_of_mem _ hb);have e1:=oH e;refine⟨y::ys,?_,by simp[hl]⟩
  rw[Zal,dB];simp only[gN,jw,bnd,ZbA,e1,e2,Zal]
theorem vd(ns:List Int)(k at_:Int)(k0:0<=k)(a0:0<=at_)(a1:at_<=900):∃ n:Int,bV [.lst (ns.map .int),.int k,.int at_]=some (.ok (.int n))/\0<=n:=by
 suffices h:∃ p,bV [.lst (ns.map .int),.int k,.int at_]=some (.ok p)/\∃ n:Int,p=.int n/\0<=n by
  obtain⟨p,e,n,rfl,h⟩:=h;exact⟨n,e,h⟩
 obtain⟨c,ec⟩:=lC ns k k0;refine mU (x:=dZ (startR [.lst (ns.map .int),.int k,.int at_] 1)) ?_;unfold dZ;walk_at "rd"
 rw[ec];walk_at "rd"
 generalize hc:(if c<0 then -c else c)=d
 have d0:0<=d:=by rw[<-hc];split<;>omega
 obtain⟨n1,e1,l1⟩:=tR d at_ a0 (by omega)
 obtain⟨n,e2,l2⟩:=tR (n1:Int) (at_+1) (by omega) (by omega)
 refine⟨by decide,by decide,by decide,vB (λh=>?_) (λh=>?_)⟩
 ·unfold iH;walk_at "rd"
  exact d0
 ·unfold iI;walk_at "rd"
  rw[e1];walk_at "rd"
  rw[e2];walk_at "rd"
  exact Zbw _
theorem Bc(p k:Int)(p0:0<=p)(p1:p<=2):∃ y:Str,eQ [.int p,.int k]=some (.ok (.str y)):=by
 suffices h:∃ q,eQ [.int p,.int k]=some (.ok q)/\∃ y:Str,q=.str y by
  obtain⟨q,e,y,rfl⟩:=h;exact⟨y,e⟩
 obtain⟨a,rfl⟩:=ZbD p0;have l2:(Str.ofString "mm").length=2:=by decide +kernel
 have l25:(Str.ofString "qwertyuiopasdfghjklzxcvbn").length=25:=by decide +kernel
 have lt25:(Str.ofString "qwertyuiopasdfghjklzxcvbn").cps.toList.length=25:=by decide +kernel
 have ha:a<=2:=by omega
 obtain⟨c,e1,_⟩:=uh (xs:=(Str.ofString "qwertyuiopasdfghjklzxcvbn").cps.toList) (i:=k%25) (ZaU _ (by decide)) (by rw[lt25];exact ZaJ _ (by decide))
 refine mU (x:=jH (startR [.int (a:Int),.int k] 0)) ?_;unfold jH;walk_at "rd"
 rw[KH _ (by rw[l2];exact ha),Dm _ (by rw[l2];exact ha)]
 have hc:∀ {l:List Nat},l.length<=2->(ofL l).length<=2:=λh=>by rw[qz];exact h
 have t2:(Str.ofString "mm").cps.toList.length=2:=by decide +kernel
 refine⟨by rw[l2];decide,by decide,by rw[l25];decide,c,e1,?_,by rw[l2];decide,?_,_,rfl⟩
 ·rw[Gh,qz,qz,Zbu,t2];exact ZaF (bw (by simp;omega))
 ·rw[Gh,Ny,qz,qz,List.length_append,Zbu,List.length_drop,t2];exact ZaF (bw (by simp;omega))
theorem HS(n:Int)(cols:List Str)(h0:cols≠[])(hc:cols.length<=23):∃ ps:List (Str×Str),gm [.int n,.lst (cols.map .str)]=some (.ok (.tup (ps.map prP)))/\Q4 cols ps/\ps≠[]:=by
 suffices h:∃ p,gm [.int n,.lst (cols.map .str)]=some (.ok p)/\∃ ps:List (Str×Str),p=.tup (ps.map prP)/\Q4 cols ps/\ps≠[] by
  obtain⟨p,e,z,rfl,h⟩:=h;exact⟨z,e,h⟩
 have hl:0<cols.length:=by cases cols with|nil=>exact absurd rfl h0|cons=>simp
 have big:∀ {n:Nat},n<=1000->n<=sizeLine:=λh=>ZaF (bw h);have m0:0<=n%8:=ZaU _ (by decide)
 have m1:n%8<8:=ZaJ _ (by decide)
 refine mU (x:=jd (startR [.int n,.lst (cols.map .str)] 4)) ?_;unfold jd;walk_at "rd"
 refine⟨by decide,by decide,by decide,by omega,by omega,?_⟩
 refine dW (λi ρ=>∃ (ps:List (Str×Str)) (r:Int) (v4 v5:Option Sl),ρ=[some (.sh (.int n)),some (.sh (.lst (cols.map .str))),some (.ow (.lst (ps.map prP))),some (.sh (.int r)),v4,v5]/\ps.length<=i/\(∀ p∈ps,p.1∈cols/\p.2∈cols)/\(ps.map (·.1)).Nodup/\(0<i->ps≠[])) ⟨[],_,none,none,rfl,Zag _,(λp h=>nomatch h),List.nodup_nil,λh=>absurd h (by decide)⟩ ?_ ?_
 ·rintro i x ρ hx ⟨ps,r,v4,v5,rfl,pl,pc,pn,pz⟩;obtain⟨hi,rfl⟩:=lD hx;refine rT λQS hQ=>?_;unfold m6;walk_at "rd"
  rw[List.length_map];obtain⟨u,eu,hu,_⟩:=yo (cs:=cols) (i:=r%(cols.length:Int)) (ZaU _ (by omega)) (ZaJ _ (by omega))
  obtain⟨o,eo,ho,_⟩:=yo (cs:=cols) (i:=r/97%(cols.length:Int)) (ZaU _ (by omega)) (ZaJ _ (by omega))
  refine⟨by omega,_,eu,by rw[List.length_map];exact big (by omega),?_⟩
  rw[jL prP (λp=>PV.str p.1) ps λp _=>by unfold prP;walk_at "rd"]
  walk_at "rd"
  refine⟨_,by rw[show ps.map (λp=>PV.str p.1)=(ps.map (·.1)).map PV.str by rw[Zbo];rfl];exact Nz u _,?_⟩
  refine vB (λhn=>?_) λhn=>?_
  ·unfold m5;walk_at "rd"
   rw[List.length_map];refine⟨by decide,by decide,by omega,_,eo,by decide,bw (by rw[List.length_map];omega),?_⟩
   unfold jt;walk_at "rd"
   rw[Sv];refine⟨by decide,by decide,hQ _ ⟨_,_,_,_,rfl,by rw[List.length_append];show _+1<=_;omega,λp hp=>?_,?_,λ_=>by simp⟩⟩
   ·rcases Zab.mp hp with h|h
    ·exact pc p h
    ·rw[Zaj.mp h];exact⟨hu,ho⟩
   ·rw[ZaP,List.nodup_append];refine⟨pn,by simp,λa ha b hb e=>?_⟩
    have:b=u:=by simpa using hb
    subst this;subst e;have hn:¬a∈ps.map (·.1):=by simpa using hn
    exact hn ha
  ·unfold jt;walk_at "rd"
   have hn:u∈ps.map (·.1):=by simpa using hn
   refine⟨by decide,by decide,hQ _ ⟨_,_,_,_,rfl,by omega,pc,pn,λ_ e=>?_⟩⟩
   rw[e] at hn;simp at hn
 ·rintro ρ ⟨ps,r,v4,v5,rfl,pl,pc,pn,pz⟩;rw[cG] at pl pz;unfold m7;walk_at "rd"
  exact⟨ps,rfl,⟨by omega,pc,pn⟩,pz (by omega)⟩
structure B17(paper:Str)(inks:List Ink)(cols:List Str):Prop where
 c0:3<=cols.length
 c1:cols.length<=6
 n0:1<=inks.length
 n1:inks.length<=8
 pp:paper∈cols
 ok:∀ k∈inks,Gi cols k
def bnP(paper:Str)(inks:List Ink):PV:=.tup [.str paper,.lst (inks.map lE)]
theorem KN(l:List Ink)(k:Ink):l.map lE++[lE k]=(l++[k]).map lE:=by rw[ZaP];rfl
theorem Bd(ns:List Int):∃ (paper:Str) (inks:List Ink) (cols:List Str),gn [.lst (ns.map .int)]=some (.ok (.tup [bnP paper inks,.lst (cols.map .str)]))/\B17 paper inks cols:=by
 suffices h:∃ p,gn [.lst (ns.map .int)]=some (.ok p)/\∃ (paper:Str) (inks:List Ink) (cols:List Str),p=.tup [bnP paper inks,.lst (cols.map .str)]/\B17 paper inks cols by
  obtain⟨p,e,a,b,c,rfl,h⟩:=h;exact⟨a,b,c,e,h⟩
 have big:∀ {n:Nat},n<=1000->n<=sizeLine:=λh=>ZaF (bw h);obtain⟨n,en,n0⟩:=vd ns 0 0 (by decide) (by decide) (by decide)
 obtain⟨c1,ec1⟩:=lC ns 1 (by decide)
 refine mU (x:=je (startR [.lst (ns.map .int)] 7)) ?_;refine lJ λQE hE=>?_;unfold je;walk_at "rd"
 rw[en];walk_at "rd"
 generalize n/2=hd
 have a0:0<=hd%3:=ZaU _ (by decide)
 have a1:hd%3<3:=ZaJ _ (by decide)
 have b0:0<=hd/100%4:=ZaU _ (by decide)
 have b1:hd/100%4<4:=ZaJ _ (by decide)
 generalize hpl:hd%3=pl at a0 a1 ⊢
 generalize hd/100%4=cn at b0 b1 ⊢
 obtain⟨cols,ecols,cl⟩:∃ cols:List Str,dB (gN 0) jw (bI eQ (aJ (mV 1) (aJ (m2 cR (m2 fG (mV 2) (mC (.int 3))) (m2 pY (mC (.int 7)) (mV 0))) bA))) [none,some (.sh (.int pl)),some (.sh (.int hd))] ((List.range (3+cn).toNat).map λi=>PV.int ((i:Nat):Int))=some (.ok (cols.map PV.str))/\cols.length=(List.range (3+cn).toNat).length:=by
  refine Gk _ λi hi=>?_;have hi:=ZaA.mp hi;obtain⟨y,ey⟩:=Bc pl (hd/3+7*(i:Int)) a0 (by omega)
  refine⟨y,?_⟩;walk_at "rd"
  refine⟨by decide,by decide,.inl ⟨by decide,by decide⟩,?_⟩
  rw[ey];walk_at "rd"
 rw[List.length_range] at cl;refine⟨by decide,by decide,by decide,by decide,by decide,by decide,by omega,by omega,by rw[cG];exact big (by omega),?_⟩
 rw[qI,ecols];walk_at "rd"
 rw[ec1];walk_at "rd"
 have d0:0<=c1%8:=ZaU _ (by decide)
 have d1:c1%8<8:=ZaJ _ (by decide)
 generalize c1%8=mn at d0 d1 ⊢
 refine⟨by decide,by omega,by omega,?_⟩
 have cz:cols≠[]:=λe=>by rw[e] at cl;simp at cl;omega
 refine dW (λi ρ=>∃ (inks:List Ink) (v5 v6 v7:Option Sl),ρ=[some (.sh (.lst (ns.map .int))),some (.sh (.int hd)),some (.sh (.int pl)),some (.sh (.lst (cols.map .str))),some (.ow (.lst (inks.map lE))),v5,v6,v7]/\inks.length=i/\∀ k∈inks,Gi cols k) ⟨[],none,none,none,rfl,rfl,λk h=>nomatch h⟩ ?_ ?_
 ·rintro i x ρ hx ⟨inks,v5,v6,v7,rfl,il,io⟩;obtain⟨hi,rfl⟩:=lD hx;refine rT λQS hQ=>?_;obtain⟨m,em,_⟩:=vd ns (2+(0+(i:Int))) (2+(0+(i:Int))) (by omega) (by omega) (by omega)
  obtain⟨y,ey⟩:=Bc ((pl+1)%3) (hd/7+11*(0+(i:Int))) (ZaU _ (by decide)) (by have:=ZaJ (pl+1) (show(0:Int)<3 by decide);omega)
  unfold ni;walk_at "rd"
  rw[em];walk_at "rd"
  refine⟨by decide,by decide,by decide,.inl ⟨by decide,by decide⟩,?_⟩
  rw[ey];walk_at "rd"
  have more:∀ k:Ink,Gi cols k->∀ z∈inks++[k],Gi cols z:=λk hk z hz=>by
   rcases Zab.mp hz with h|h
   ·exact io z h
   ·rw[Zaj.mp h];exact hk
  refine⟨by decide,vB (λ_=>?_) λ_=>?_⟩
  ·obtain⟨o,eo,ho,_⟩:=yo (cs:=cols) (i:=m/10%(cols.length:Int)) (ZaU _ (by omega)) (ZaJ _ (by omega))
   unfold m8;walk_at "rd"
   rw[List.length_map];refine⟨by decide,by decide,by omega,_,eo,by decide,bw (by rw[List.length_map];omega),?_⟩
   exact hQ _ ⟨inks++[.cov y o],_,_,_,by rw[<-KN];rfl,by simp[il],more (.cov y o) ho⟩
  ·obtain⟨ps,ep,po,pz⟩:=HS (m/10) cols cz (by omega)
   unfold m9;walk_at "rd"
   refine⟨by decide,by decide,?_⟩
   rw[ep];walk_at "rd"
   refine⟨by decide,bw (by rw[List.length_map];omega),?_⟩
   exact hQ _ ⟨inks++[.glz y ps],_,_,_,by rw[<-KN];rfl,by simp[il],more (.glz y ps) ⟨pz,po⟩⟩
 ·rintro ρ ⟨inks,v5,v6,v7,rfl,il,io⟩;rw[cG] at il;obtain⟨o,eo,ho,_⟩:=yo (cs:=cols) (i:=hd/1000%(cols.length:Int)) (ZaU _ (by omega)) (ZaJ _ (by omega))
  unfold nj;walk_at "rd"
  rw[QW rfl];walk_at "rd"
  rw[List.length_map];refine⟨by decide,by decide,by omega,_,eo,by decide,by decide,hE _ ⟨_,rfl,o,inks,cols,rfl,⟨by omega,by omega,by omega,by omega,ho,io⟩⟩⟩
def stP(s:List Nat):PV:=.tup (s.map λ(n:Nat)=>PV.int (n:Int))
theorem NK{x y:List PV}{Q:PV->Prop}:Tv (Df (.tup x) (.tup y)) Q=(x.length+y.length<=sizeLine/\Q (.tup (x++y))):=cu
theorem Be{κ:Type}[DecidableEq κ](k j:κ)(p:PV):∀ l:List (κ×PV),cU (bD l k p) j=if j=k then some p else cU l j
 |[]=>by
  by_cases h:j=k
  ·subst h;simp[bD,cU]
  ·rw[Zai h];simp[bD,cU,Zbp h]
 |(k',q)::l=>by
  unfold bD;by_cases h:k'=k
  ·subst h;rw[Zah rfl];by_cases hj:j=k'
   ·subst hj;simp[cU]
   ·simp[cU,hj,Zbp hj]
  ·rw[Zai h];by_cases hj:k'=j
   ·subst hj;simp[cU,h]
   ·simp only[cU,Zai hj];exact Be k j p l
theorem Bf{κ:Type}[DecidableEq κ](k:κ)(p:PV):∀ l:List (κ×PV),(bD l k p).length<=l.length+1
 |[]=>by simp[bD]
 |(k',q)::l=>by
  unfold bD;split
  ·simp
  ·have:=Bf k p l;simp only[ZaK];omega
def stk:Nat->List (List Nat)
 |0=>[[]]
 |n+1=>stk n++(stk n).map λs=>s++[n]
theorem pF:∀ {n:Nat}{s:List Nat},s∈stk n->∀ x∈s,x<n
 |0,s,h,x,hx=>by rw[Zaj.mp h] at hx;cases hx
 |n+1,s,h,x,hx=>by
  rcases Zab.mp h with h|h
  ·have:=pF h x hx;omega
  ·obtain⟨t,ht,rfl⟩:=Za1.mp h;rcases Zab.mp hx with hx|hx
   ·have:=pF ht x hx;omega
   ·rw[Zaj.mp hx];omega
theorem Gm:∀ n:Nat,(stk n).length=2^n
 |0=>rfl
 |n+1=>by rw[stk,List.length_append,List.length_map,Gm n,Nat.pow_succ];omega
theorem Do:∀ {n:Nat}{s:List Nat},s∈stk n->s.length<=n
 |0,s,h=>by rw[Zaj.mp h];decide
 |n+1,s,h=>by
  rcases Zab.mp h with h|h
  ·have:=Do h;omega
  ·obtain⟨t,ht,rfl⟩:=Za1.mp h;have:=Do ht;rw[List.length_append,Zbx];omega
theorem yp:∀ n:Nat,(stk n).Nodup
 |0=>by decide
 |n+1=>by
  rw[stk,List.nodup_append];refine⟨yp n,?_,λa ha b hb e=>?_⟩
  ·refine List.Pairwise.map _ (λa b h e=>h ?_) (yp n);exact List.append_cancel_right e
  ·obtain⟨t,ht,rfl⟩:=Za1.mp hb;subst e;have:=pF ha n (by simp)
   omega
theorem yq{n:Nat}(h:n<=8):(stk n).length<=256:=by
 rw[Gm];exact Nat.pow_le_pow_right (by decide) h
def tkS(s:List Nat):Tk:=((s.length:Int),s.map λ(n:Nat)=>(n:Int))
theorem Gn{s t:List Nat}(h:tkS s=tkS t):s=t:=by
 have h2:s.map (λ(n:Nat)=>(n:Int))=t.map λ(n:Nat)=>(n:Int):=ZbJ Prod.snd h;exact List.map_inj_right (λa b e=>Int.ofNat.inj e) |>.mp h2
def srt(n:Nat):List (List Nat):=(j5 gB ((stk n).map tkS)).map λj=>(stk n).getD j []
theorem mD(n:Nat):(srt n).Perm (stk n):=by
 have p:=(j6 gB ((stk n).map tkS)).map λj=>(stk n).getD j [];rw[List.length_map] at p;have e:(List.range (stk n).length).map (λj=>(stk n).getD j [])=stk n:=by
  apply Zbs
  intro i;rw[Zac];by_cases h:i<(stk n).length
  ·rw[Za3 h,Zaa h];show some ((stk n).getD i [])=_
   rw[Zae,Zaa h];rfl
  ·rw[ZaH (by rw[List.length_range];omega),ZaH (by omega)]
   rfl
 rw[e] at p;exact p
theorem vf:∀ s:List Nat,fC (s.map λ(n:Nat)=>PV.int (n:Int))=some (s.map λ(n:Nat)=>(n:Int))
 |[]=>rfl
 |a::s=>by rw[Zal,fC,vf s];rfl
theorem Bg{m:List PV->Option (Res PV)}(hm:∀ s:List Nat,m [stP s]=some (.ok (.tup [.int (s.length:Int),stP s]))):∀ l:List (List Nat),keysOf m (l.map stP)=some (l.map tkS)
 |[]=>rfl
 |s::l=>by
  rw[Zal,keysOf,hm s];simp only[Bg hm l];have e:QR (.tup [.int (s.length:Int),stP s])=some (tkS s):=by
   show(fC (s.map λ(n:Nat)=>PV.int (n:Int))).map _=_
   rw[vf];rfl
  rw[e];rfl
theorem HW{m:List PV->Option (Res PV)}(hm:∀ s:List Nat,m [stP s]=some (.ok (.tup [.int (s.length:Int),stP s]))){n:Nat}(hn:n<=8):lg m ((stk n).map stP)=some (.ok (.lst ((srt n).map stP))):=by
 unfold lg;rw[Bg hm];simp only;rw[Zah]
 ·unfold srt;rw[Zbo];congr 3
  refine Za2 λj hj=>?_;have hj:j<(stk n).length:=by have:=kZ j hj;rwa [List.length_map] at this
  show((stk n).map stP).getD j .non=stP ((stk n).getD j [])
  rw[Zae,Zac,Zae,Zaa hj];rfl
 ·refine⟨?_,λp hp q hq e=>?_,by rw[List.length_map];have:=yq hn;exact bw (by omega)⟩
  ·exact List.Pairwise.map _ (λa b h e=>h (Gn e)) (yp n)
  ·obtain⟨s,_,rfl⟩:=Za1.mp hp;obtain⟨t,_,rfl⟩:=Za1.mp hq;show(s.map _).length=(t.map _).length
   rw[List.length_map,List.length_map];exact Int.ofNat.inj e
theorem KQ{m:List PV->Option (Res PV)}{l:List PV}{r:PV}{Q:PV->Prop}(h:lg m l=some (.ok r)):Tv (lg m l) Q=Q r:=by rw[h,tv_some]
theorem NP(s:List Nat)(n:Nat):(s.map λ(n:Nat)=>PV.int (n:Int))++[PV.int (n:Int)]=(s++[n]).map λ(n:Nat)=>PV.int (n:Int):=by rw[ZaP];rfl
theorem vJ{n:Nat}(hn:n<=8):iY [.int (n:Int)]=some (.ok (.lst ((srt n).map stP))):=by
 have big:∀ {n:Nat},n<=1000->n<=sizeLine:=λh=>ZaF (bw h);refine nT (x:=iW (startR [.int (n:Int)] 2)) ?_;refine lJ λQE hE=>?_;unfold iW;walk_at "rd"
 refine⟨by decide,by omega,by omega,?_⟩
 refine dW (λi ρ=>∃ v2,ρ=[some (.sh (.int (n:Int))),some (.sh (.lst ((stk i).map stP))),v2]) ⟨none,rfl⟩ ?_ ?_
 ·rintro i x ρ hx ⟨v2,rfl⟩;obtain⟨hi,rfl⟩:=lD hx;refine rT λQS hQ=>?_;rw[Int.zero_add];unfold mW;walk_at "rd"
  have hl:=yq (n:=i) (by omega)
  refine⟨by rw[List.length_map];exact big (by omega),?_⟩
  rw[jL stP (λs=>stP (s++[i])) (stk i) λs hs=>?_]
  ·walk_at "rd"
   refine⟨by rw[List.length_map,List.length_map];exact big (by omega),hQ _ ⟨some (.sh (.int (i:Int))),?_⟩⟩
   rw[show(stk i).map (λs=>stP (s++[i]))=((stk i).map λs=>s++[i]).map stP by rw[Zbo];rfl,<-ZaP]
   rfl
  ·have:=Do hs;unfold stP;walk_at "rd"
   simp only[NK];refine⟨by decide,by rw[List.length_map];exact big (by simp;omega),?_⟩
   rw[NP]
 ·rintro ρ ⟨v2,rfl⟩;rw[cG,Za0];unfold mX;walk_at "rd"
  rw[KQ (HW (λs=>?_) hn)]
  ·exact hE _ rfl
  ·show(ju _ _)=_
   refine oH ?_;unfold stP;walk_at "rd"
   rw[List.length_map];exact⟨by decide,rfl⟩
def shw(inks:List Ink)(paper:Str)(L:List (List Nat))(c:Str):List (List Nat):=L.filter λs=>decide (bT inks paper s=c)
theorem vg{i:Nat}{fk fe:Fn PV}{ρ:Rho}{QS:Out->Prop}{l:List (Key×PV)}{kp q:PV}{k:Key}{row:List PV}(h1:ρ[i]?=some (some (.dp (.dk l))))(hl:l.length<sizeLine)(h2:fk ρ=some (.ok kp))(hk:qb kp=some k)(hr:(cU l k).getD (.lst [])=.lst row)
  (h3:fe (ρ.set i (some (.dp (.dk (bD l k (.lst row))))))=some (.ok q))(hq:q.still=true)(hz:row.length<sizeLine)(h:QS (.nx (ρ.set i (some (.dp (.dk (bD l k (.lst (row++[q]))))))))):To (jZ i fk fe ρ) QS:=by
 have e:CQ i ρ=some (.dk l):=by unfold CQ;rw[h1]
 unfold jZ;rw[e];simp only[Zah hl,h2,kj,hk,hr,h3,Zah (And.intro hq hz)];rw[to_nx];exact h
theorem HX(s:List Nat):(stP s).still=true:=by
 unfold stP;show Cv _ _=true
 exact Zbd.mpr λx hx=>by obtain⟨n,_,rfl⟩:=Za1.mp hx;rfl
def ByC(inks:List Ink)(paper:Str)(L:List (List Nat))(d:List (Key×PV)):Prop:=d.length<=L.length/\∀ c:Str,cU d (.inr c)=if shw inks paper L c=[] then none else some (.lst ((shw inks paper L c).map stP))
theorem ByC.nil{inks:List Ink}{paper:Str}:ByC inks paper [] []:=⟨Zag _,λc=>rfl⟩
theorem ByC.row{inks:List Ink}{paper:Str}{L:List (List Nat)}{d:List (Key×PV)}(b:ByC inks paper L d)(c:Str):(cU d (.inr c)).getD (.lst [])=.lst ((shw inks paper L c).map stP):=by
 rw[b.2 c];by_cases h:shw inks paper L c=[]
 ·rw[Zah h,h];rfl
 ·rw[Zai h];rfl
theorem ByC.snoc{inks:List Ink}{paper:Str}{L:List (List Nat)}{d:List (Key×PV)}(b:ByC inks paper L d)(s:List Nat):ByC inks paper (L++[s]) (bD d (.inr (bT inks paper s)) (.lst ((shw inks paper L (bT inks paper s)).map stP++[stP s]))):=by
 refine⟨?_,λc=>?_⟩
 ·have:=Bf (.inr (bT inks paper s):Key) (.lst ((shw inks paper L (bT inks paper s)).map stP++[stP s])) d;have:=b.1;rw[List.length_append,Zbx];omega
 ·rw[Be];unfold shw;rw[ZbI];by_cases h:c=bT inks paper s
  ·subst h;rw[Zah rfl,List.filter_cons_of_pos (by simp),ZbP,Zai (by simp),ZaP]
   rfl
  ·rw[Zai (λz=>h (Sum.inr.inj z)),List.filter_cons_of_neg (by simpa using Zbp h),ZbP,ZaM]
   exact b.2 c
theorem Q6{paper:Str}{inks:List Ink}(h8:inks.length<=8):∃ d,cY [bnP paper inks]=some (.ok (.dk d))/\ByC inks paper (srt inks.length) d:=by
 suffices h:∃ p,cY [bnP paper inks]=some (.ok p)/\∃ d,p=.dk d/\ByC inks paper (srt inks.length) d by
  obtain⟨p,e,d,rfl,h⟩:=h;exact⟨d,e,h⟩
 have sl:(srt inks.length).length<=256:=by rw[(mD _).length_eq];exact yq h8
 refine Nr (x:=dO (startR [bnP paper inks] 2)) ?_;refine lJ λQE hE=>?_;unfold dO bnP;walk_at "rd"
 simp only[Ga];walk_at "rd"
 refine⟨rfl,?_⟩;rw[List.length_map,vJ h8];walk_at "rd"
 refine dW (λi ρ=>∃ d v2,ρ=[some (.sh (bnP paper inks)),some (.dp (.dk d)),v2]/\ByC inks paper ((srt inks.length).take i) d) ⟨[],none,rfl,ByC.nil⟩ ?_ ?_
 ·rintro i x ρ hx ⟨d,v2,rfl,b⟩;rw[Zac] at hx;cases hs:(srt inks.length)[i]? with
  |none=>rw[hs] at hx;cases hx
  |some s=>
   rw[hs] at hx;cases hx;have hm:=(mD _).mem_iff.mp (ZaC hs);refine rT λQS hQ=>?_;unfold iw;have dl:d.length<=256:=ZaQ b.1 (by rw[Zbu];omega)
   refine vg rfl (bw (by omega)) (kp:=.str (bT inks paper s)) (q:=stP s) ?_ rfl (b.row _) rfl (HX s) (by rw[List.length_map];have:(shw inks paper ((srt inks.length).take i) (bT inks paper s)).length<=_:=List.length_filter_le _ _;rw[Zbu] at this;exact bw (by omega)) (hQ _ ⟨_,_,rfl,?_⟩)
   ·refine oH ?_;rw[show([some (Sl.sh (bnP paper inks)),some (.dp (.dk d)),v2]:Rho).set 2 (some (.sh (stP s)))=[some (.sh (bnP paper inks)),some (.dp (.dk d)),some (.sh (stP s))] from rfl];walk_at "rd"
    rw[show eO [bnP paper inks,stP s]=_ from qH paper inks s (pF hm)];walk_at "rd"
   ·rw[take_snoc hs];exact b.snoc s
 ·rintro ρ ⟨d,v2,rfl,b⟩;rw[List.length_map,List.take_length] at b;unfold iy;walk_at "rd"
  exact hE _ ⟨_,rfl,d,rfl,b⟩
theorem snocInd{α:Type}{P:List α->Prop}(nil:P [])(snoc:∀ l a,P l->P (l++[a]))(l:List α):P l:=by
 have h:∀ l:List α,P l.reverse:=λl=>by
  induction l with
  |nil=>exact nil
  |cons a l ih=>rw[List.reverse_cons];exact snoc _ _ ih
 have:=h l.reverse
 rwa [List.reverse_reverse] at this
def ddF(ks:List Str):List Str:=ks.foldl (λa k=>if k∈a then a else a++[k]) []
theorem vh(ks:List Str)(k:Str):ddF (ks++[k])=if k∈ddF ks then ddF ks else ddF ks++[k]:=by
 unfold ddF;rw[List.foldl_append];rfl
theorem NQ(ks:List Str):∀ {c:Str},c∈ddF ks↔c∈ks:=by
 induction ks using snocInd with
 |nil=>intro c;exact Iff.rfl
 |snoc ks k ih=>
  intro c;rw[vh,Zab,Zaj];split
  ·rename_i h;rw[ih];exact⟨.inl,λz=>z.elim id λe=>e▸ih.mp h⟩
  ·rw[Zab,Zaj,ih]
theorem Q7(ks:List Str):(ddF ks).Nodup:=by
 induction ks using snocInd with
 |nil=>exact List.nodup_nil
 |snoc ks k ih=>
  rw[vh];split
  ·exact ih
  ·rename_i h;rw[List.nodup_append];exact⟨ih,by simp,λa ha b hb e=>h (by rw[Zaj.mp hb] at e;exact e▸ha)⟩
section
variable{α:Type}
def sel(L:List (Str×α))(c:Str):List α:=(L.filter λp=>decide (p.1=c)).map (·.2)
def kys(L:List (Str×α)):List Str:=ddF (L.map (·.1))
def grp(g:α->PV)(L:List (Str×α)):List (Key×PV):=(kys L).map λc=>(.inr c,.lst ((sel L c).map g))
theorem vm(L:List (Str×α))(k:Str)(a:α)(c:Str):sel (L++[(k,a)]) c=if k=c then sel L c++[a] else sel L c:=by
 unfold sel;rw[ZbI];split
 ·rename_i h;rw[List.filter_cons_of_pos (by simpa using h),ZbP,ZaP]
  rfl
 ·rename_i h;rw[List.filter_cons_of_neg (by simpa using h),ZbP,ZaM]
theorem KR(L:List (Str×α))(k:Str)(a:α):kys (L++[(k,a)])=if k∈kys L then kys L else kys L++[k]:=by
 unfold kys;rw[ZaP];exact vh _ _
theorem qJ{L:List (Str×α)}{c:Str}:c∈kys L↔∃ a,(c,a)∈L:=by
 unfold kys;rw[NQ,Za1];exact⟨λ⟨p,h,e⟩=>⟨p.2,by rw[<-e];exact h⟩,λ⟨a,h⟩=>⟨_,h,rfl⟩⟩
theorem vo(L:List (Str×α)):(kys L).Nodup:=Q7 _
theorem tU{L:List (Str×α)}{c:Str}{a:α}:a∈sel L c↔(c,a)∈L:=by
 unfold sel;rw[Za1];constructor
 ·rintro⟨p,h,rfl⟩;rw[Zbh,decide_eq_true_eq] at h;rw[<-h.2];exact h.1
 ·intro h;exact⟨(c,a),Zbh.mpr ⟨h,by simp⟩,rfl⟩
theorem NT{L:List (Str×α)}{c:Str}(h:c ∉ kys L):sel L c=[]:=by
 cases e:sel L c with
 |nil=>rfl
 |cons a l=>exact absurd (qJ.mpr ⟨a,tU.mp (by rw[e];exact List.mem_cons_self)⟩) h
theorem qK{F:Str->PV}{c:Str}:∀ {ks:List Str},cU (ks.map λc=>((.inr c:Key),F c)) (.inr c)=if c∈ks then some (F c) else none
 |[]=>rfl
 |k::ks=>by
  rw[Zal];by_cases h:k=c
  ·subst h;simp[cU]
  ·have ih:=qK (F:=F) (c:=c) (ks:=ks);have hc:(Sum.inr k:Key)≠.inr c:=λz=>h (Sum.inr.inj z);simp only[cU,Zai hc,ih,ZaW,show(c=k)=False from eq_false (Zbp h),false_or]
theorem NZ(g:α->PV)(L:List (Str×α))(c:Str):cU (grp g L) (.inr c)=if c∈kys L then some (.lst ((sel L c).map g)) else none:=qK (F:=λc=>.lst ((sel L c).map g))
theorem N5(g:α->PV)(L:List (Str×α))(c:Str):(cU (grp g L) (.inr c)).getD (.lst [])=.lst ((sel L c).map g):=by
 rw[NZ];split
 ·rfl
 ·rename_i h;rw[NT h];rfl
theorem KY{F:Str->PV}{k:Str}{p:PV}:∀ {ks:List Str},ks.Nodup->bD (ks.map λc=>((.inr c:Key),F c)) (.inr k) p=if k∈ks then ks.map λc=>((.inr c:Key),if c=k then p else F c) else ks.map (λc=>((.inr c:Key),F c))++[(.inr k,p)]
 |[],_=>rfl
 |c::ks,nd=>by
  obtain⟨n1,n2⟩:=ZbK.mp nd;rw[Zal];unfold bD;by_cases h:c=k
  ·subst h;rw[Zah rfl,Zah List.mem_cons_self,Zal,Zah rfl];congr 1
   refine Za2 λd hd=>?_;rw[Zai (λz:d=c=>n1 (by rw[<-z];exact hd))]
  ·have hc:(Sum.inr c:Key)≠.inr k:=λz=>h (Sum.inr.inj z);rw[Zai hc,KY n2];by_cases hk:k∈ks
   ·rw[Zah hk,Zah (List.mem_cons_of_mem _ hk),Zal,Zai h]
   ·rw[Zai hk,Zai (λz=>(ZaW.mp z).elim (λe=>h e.symm) hk)];rfl
theorem N6(g:α->PV)(L:List (Str×α))(k:Str)(a:α):bD (grp g L) (.inr k) (.lst ((sel L k).map g++[g a]))=grp g (L++[(k,a)]):=by
 unfold grp;rw[KY (F:=λc=>.lst ((sel L c).map g)) (vo L),KR];by_cases h:k∈kys L
 ·rw[Zah h,Zah h];refine Za2 λc _=>?_;rw[vm];by_cases hc:c=k
  ·subst hc;rw[Zah rfl,Zah rfl,ZaP];rfl
  ·rw[Zai hc,Zai (Zbp hc)]
 ·rw[Zai h,Zai h,ZaP];congr 1
  ·refine Za2 λc hc=>?_;rw[vm,Zai (λz:k=c=>h (by rw[z];exact hc))]
  ·rw[Zal,List.map_nil,vm,Zah rfl,ZaP];rfl
theorem KZ(L:List (Str×α)):(kys L).length<=L.length:=by
 unfold kys ddF
 suffices h:∀ (ks:List Str) (a:List Str),(ks.foldl (λa k=>if k∈a then a else a++[k]) a).length<=a.length+ks.length by
  have:=h (L.map (·.1)) [];simpa using this
 intro ks;induction ks with
 |nil=>intro a;exact Zag _
 |cons k ks ih=>
  intro a;rw[List.foldl_cons];have:=ih (if k∈a then a else a++[k]);rw[ZaK];split at this
  ·rename_i h;rw[Zah h];omega
  ·rename_i h;rw[Zai h];rw[List.length_append,Zbx] at this;omega
theorem Q8(L:List (Str×α))(c:Str):(sel L c).length<=L.length:=by
 unfold sel;rw[List.length_map];exact List.length_filter_le _ _
theorem Bh{k:Key}{p:PV}:∀ {l:List (Key×PV)},cU l k=none->p8 l k p=l++[(k,p)]
 |[],_=>rfl
 |(k',q)::l,h=>by
  unfold cU at h;split at h
  ·cases h
  ·rename_i hk;unfold p8;rw[Zai hk,Bh h];rfl
theorem Gp(F:Str->PV):∀ {ks done:List Str},(done++ks).Nodup->(done++ks).length<=1000->gU (.dk (done.map λc=>((.inr c:Key),F c))) (ks.map λc=>(PV.str c,F c))=some (.dk ((done++ks).map λc=>((.inr c:Key),F c)))
 |[],done,_,_=>by rw[ZaM];rfl
 |c::ks,done,nd,hl=>by
  rw[Zal];unfold gU;have nc:c ∉ done:=λz=>by
   rw[List.nodup_append] at nd;exact nd.2.2 c z c List.mem_cons_self rfl
  have e:Mq (.dk (done.map λc=>((.inr c:Key),F c))) (.str c) (F c)=some (.dk ((done++[c]).map λc=>((.inr c:Key),F c))):=by
   rw[QZ,Zah (by rw[List.length_map];rw[List.length_append] at hl;exact bw (by omega)),Bh (by rw[qK,Zai nc]),ZaP]
   rfl
  rw[e];have:=Gp F (ks:=ks) (done:=done++[c]) (by rw[Zar];exact nd) (by rw[Zar];exact hl)
  rw[Zar] at this;exact this
theorem Bj(F:Str->PV):∀ ks:List Str,jB (ks.map λc=>PV.tup [.str c,F c])=some (ks.map λc=>(PV.str c,F c))
 |[]=>rfl
 |c::ks=>by
  rw[Zal];unfold jB;rw[Bj F ks];rfl
theorem Dq(F:Str->PV){ks:List Str}(nd:ks.Nodup)(hl:ks.length<=1000){Q:PV->Prop}(q:Q (.dk (ks.map λc=>((.inr c:Key),F c)))):∃ ps,jB (ks.map λc=>PV.tup [.str c,F c])=some ps/\∃ x,gU (.dk []) ps=some x/\Q x:=
 ⟨_,Bj F ks,_,Gp F (ks:=ks) (done:=[]) (by simpa using nd) (by simpa using hl),q⟩
theorem vp{tg:PV->Rho->Option Rho}{el:Fn PV}{ρb:Rho}(g F:α->PV):∀ (l:List α),(∀ a∈l,∃ ρ1,tg (g a) ρb=some ρ1/\Tv (el ρ1) λp=>p=F a)->dB tg jw el ρb (l.map g)=some (.ok (l.map F))
 |[],_=>rfl
 |a::l,h=>by
  obtain⟨ρ1,e1,e2⟩:=h a List.mem_cons_self;have ih:=vp g F l λb hb=>h b (List.mem_cons_of_mem _ hb);rw[Zal,dB,e1];simp only[jw,bnd,ZbA,oH e2,ih,Zal]
end
theorem Bk(F:Str->PV)(ks:List Str):mF (ks.map λc=>((.inr c:Key),F c))=ks.map λc=>PV.tup [.str c,F c]:=by
 unfold mF;rw[Zbo];rfl
theorem Gq(F:Str->PV)(ks:List Str):uG (ks.map λc=>((.inr c:Key),F c))=ks.map PV.str:=by
 unfold uG;rw[Zbo];rfl
theorem Bl(F:Str->PV):∀ ks:List Str,mO ((ks.map λc=>((.inr c:Key),F c)).map (·.1))=some ks
 |[]=>rfl
 |k::ks=>by
  rw[Zal,Zal];show(mO _).map _=_
  rw[Bl F ks];rfl
theorem HY(F:Str->PV){ks:List Str}(hl:ks.length<64){Q:PV->Prop}:Tv (qx (.dk (ks.map λc=>((.inr c:Key),F c)))) Q=Q (.lst ((qp ks).map .str)):=by
 unfold qx;simp only[Bl,Zah hl];exact tv_some
def prs(f:Nat->Nat->Str)(w i j:Nat):List (Str×(Int×Int)):=((List.range i).flatMap λr=>(List.range w).map λc=>(f c r,((c:Int),(r:Int))))++(List.range j).map λc=>(f c i,((c:Int),(i:Int)))
theorem Pb(f:Nat->Nat->Str)(w i:Nat):prs f w (i+1) 0=prs f w i w:=by
 unfold prs;rw[List.range_succ,List.flatMap_append];simp
theorem Pg(f:Nat->Nat->Str)(w i j:Nat):prs f w i (j+1)=prs f w i j++[(f j i,((j:Int),(i:Int)))]:=by
 unfold prs;rw[List.range_succ,ZaP,<-Zar];rfl
theorem tV(f:Nat->Nat->Str)(w:Nat):∀ i j:Nat,(prs f w i j).length=i*w+j
 |0,j=>by unfold prs;simp
 |i+1,0=>by rw[Pb,tV f w i w,Nat.succ_mul,Nat.add_zero]
 |i+1,j+1=>by rw[Pg,List.length_append,tV f w (i+1) j];simp;omega
theorem nZ{f:Nat->Nat->Str}{w h:Nat}{s:Str}{a:Int×Int}:(s,a)∈prs f w h 0↔∃ c r:Nat,c<w/\r<h/\s=f c r/\a=((c:Int),(r:Int)):=by
 unfold prs;rw[Zab,List.mem_flatMap];constructor
 ·rintro(⟨r,hr,hm⟩|hm)
  ·obtain⟨c,hc,e⟩:=Za1.mp hm;cases e;exact⟨c,r,ZaA.mp hc,ZaA.mp hr,rfl,rfl⟩
  ·simp at hm
 ·rintro⟨c,r,hc,hr,rfl,rfl⟩;exact .inl ⟨r,ZaA.mpr hr,Za1.mpr ⟨c,ZaA.mpr hc,rfl⟩⟩
theorem Gr{w i j:Nat}(hw:w<=24)(hi:i<=24)(hj:j<=24):i*w+j<=600:=by
 have:i*w<=24*24:=Nat.mul_le_mul hi hw;omega
theorem K1{w h:Nat}(hw:w<=24)(hh:h<=24)(f:Nat->Nat->Str):cI [gO w h f]=some (.ok (.dk (grp cellP (prs f w h 0)))):=by
 refine FW (x:=eF (startR [gO w h f] 5)) ?_;refine lJ λQE hE=>?_;unfold eF gO;walk_at "rd"
 simp only[Ga];walk_at "rd"
 refine⟨rfl,?_⟩;refine Aj (λi ρ=>∃ v2 v3 v4 v5,ρ=[some (.sh (gO w h f)),some (.dp (.dk (grp cellP (prs f w i 0)))),v2,v3,v4,v5]) ⟨none,none,none,none,rfl⟩ ?_ ?_
 ·rintro i x ρ hx ⟨v2,v3,v4,v5,rfl⟩;rw[Zac] at hx;have hi:i<h:=by
   rcases Nat.lt_or_ge i h with q|q
   ·exact q
   ·rw[ZaH (by rw[List.length_range];exact q)] at hx;cases hx
  rw[Za3 hi] at hx;cases hx;refine rT λQS hQ=>?_;unfold iM;walk_at "rd"
  refine Aj (λj ρ=>∃ v4 v5,ρ=[some (.sh (gO w h f)),some (.dp (.dk (grp cellP (prs f w i j)))),some (.sh (.int (i:Int))),some (.sh (.lst ((List.range w).map λc=>.str (f c i)))),v4,v5]) ⟨_,_,rfl⟩ ?_ ?_
  ·rintro j x ρ hx ⟨v4,v5,rfl⟩;rw[Zac] at hx;have hj:j<w:=by
    rcases Nat.lt_or_ge j w with q|q
    ·exact q
    ·rw[ZaH (by rw[List.length_range];exact q)] at hx;cases hx
   rw[Za3 hj] at hx;cases hx;refine rT λQS hQ=>?_;have sm:=Gr hw (show i<=24 by omega) (show j<=24 by omega)
   have pl:=tV f w i j;unfold iK;refine vg rfl ?_ (kp:=.str (f j i)) (q:=.tup [.int (j:Int),.int (i:Int)]) rfl rfl (N5 _ _ _) ?_ rfl ?_ (hQ _ ⟨some (.sh (.int (j:Int))),some (.sh (.str (f j i))),?_⟩)
   ·unfold grp;rw[List.length_map];have:=KZ (prs f w i j);exact bw (by omega)
   ·refine oH ?_;walk_at "rd"
    decide
   ·rw[List.length_map];have:=Q8 (prs f w i j) (f j i);exact bw (by omega)
   ·rw[Pg,<-N6];rfl
  ·rintro ρ ⟨v4,v5,rfl⟩;rw[List.length_map,List.length_range];exact hQ _ ⟨_,_,_,_,by rw[Pb]⟩
 ·rintro ρ ⟨v2,v3,v4,v5,rfl⟩;rw[List.length_map,List.length_range];unfold iQ;walk_at "rd"
  exact hE _ rfl
def nq(inks:List Ink)(paper:Str)(c:Str):List Nat:=(shw inks paper (srt inks.length) c).headD []
theorem N7{w h:Nat}(hw:w<=24)(hh:h<=24)(f:Nat->Nat->Str){paper:Str}{inks:List Ink}(h8:inks.length<=8)(h64:(kys (prs f w h 0)).length<64)(hs:∀ c∈kys (prs f w h 0),shw inks paper (srt inks.length) c≠[]) :
  jb [bnP paper inks,gO w h f]=some (.ok (.dk ((qp (kys (prs f w h 0))).map λc=>((.inr c:Key),.lst ((shw inks paper (srt inks.length) c).map stP))))):=by
 obtain⟨d,ed,b⟩:=Q6 (paper:=paper) h8;have big:∀ {n:Nat},n<=1000->n<=sizeLine:=λh=>ZaF (bw h);have ec:=K1 hw hh f;have sp:=j0 (kys (prs f w h 0));have sl:=sp.length_eq;generalize hb:bnP paper inks=bp at ed ⊢
 generalize hp:gO w h f=pp at ec ⊢
 refine nT (x:=iZ (startR [bp,pp] 3)) ?_;refine lJ λQE hE=>?_;unfold iZ;walk_at "rd"
 rw[ed];walk_at "rd"
 rw[ec];walk_at "rd"
 unfold grp;rw[Gq (λc=>.lst ((sel (prs f w h 0) c).map cellP))];have fnd:∀ c∈kys (prs f w h 0),cU d (.inr c)=some (.lst ((shw inks paper (srt inks.length) c).map stP)):=λc hc=>by
  rw[b.2 c,Zai (hs c hc)]
 refine dW (λi ρ=>∃ v4,ρ=[some (.sh bp),some (.sh pp),some (.sh (.dk d)),some (.sh (.dk ((kys (prs f w h 0)).map λc=>((.inr c:Key),.lst ((sel (prs f w h 0) c).map cellP))))),v4]) ⟨_,rfl⟩ ?_ ?_
 ·rintro i x ρ hx ⟨v4,rfl⟩;obtain⟨c,hc,rfl⟩:=Za1.mp (ZaC hx);refine FQ λQS hQ _ _ _ _=>?_;unfold mY;walk_at "rd"
  rw[fnd c hc,Zai (by simp)]
  exact hQ _ ⟨_,rfl⟩
 ·rintro ρ ⟨v4,rfl⟩;show To _ _
  unfold mZ;walk_at "rd"
  rw[HY (λc=>.lst ((sel (prs f w h 0) c).map cellP)) h64];walk_at "rd"
  refine⟨by rw[List.length_map,sl];exact big (by omega),?_⟩
  rw[jL PV.str (λc=>.tup [.str c,.lst ((shw inks paper (srt inks.length) c).map stP)]) _ λc hc=>?_]
  ·walk_at "rd"
   exact Dq (λc=>.lst ((shw inks paper (srt inks.length) c).map stP)) (sp.nodup_iff.mpr (vo _)) (by omega) (hE _ rfl)
  ·walk_at "rd"
   exact⟨_,fnd c (sp.mem_iff.mp hc),by decide,rfl⟩
theorem K3{w h:Nat}(hw:w<=24)(hh:h<=24)(f:Nat->Nat->Str){paper:Str}{inks:List Ink}(h8:inks.length<=8)(h64:(kys (prs f w h 0)).length<64)(hs:∀ c∈kys (prs f w h 0),shw inks paper (srt inks.length) c≠[]) :
  fM [bnP paper inks,gO w h f]=some (.ok (.dk ((qp (kys (prs f w h 0))).map λc=>((.inr c:Key),stP (nq inks paper c))))):=by
 have es:=N7 hw hh f h8 h64 hs;have big:∀ {n:Nat},n<=1000->n<=sizeLine:=λh=>ZaF (bw h);have sp:=j0 (kys (prs f w h 0));have sl:=sp.length_eq;generalize hb:bnP paper inks=bp at es ⊢
 generalize hp:gO w h f=pp at es ⊢
 refine nT (x:=fL (startR [bp,pp] 0)) ?_;refine lJ λQE hE=>?_;unfold fL;walk_at "rd"
 rw[es];walk_at "rd"
 rw[Bk (λc=>.lst ((shw inks paper (srt inks.length) c).map stP))];refine⟨by rw[List.length_map,sl];exact big (by omega),?_⟩
 rw[vp (λc=>PV.tup [.str c,.lst ((shw inks paper (srt inks.length) c).map stP)]) (λc=>.tup [.str c,stP (nq inks paper c)]) _ λc hc=>?_]
 ·walk_at "rd"
  exact Dq (λc=>stP (nq inks paper c)) (sp.nodup_iff.mpr (vo _)) (by omega) (hE _ rfl)
 ·refine⟨_,rfl,?_⟩;walk_at "rd"
  have hc:=hs c (sp.mem_iff.mp hc);unfold nq;cases e:shw inks paper (srt inks.length) c with
  |nil=>exact absurd e hc
  |cons s l=>exact⟨_,atI_0,by decide,rfl⟩
theorem K4{w h:Nat}(w0:1<=w)(h0:1<=h)(hw:w<=24)(hh:h<=24)(f:Nat->Nat->Str):fj [gO w h f]=some (.ok (.dk ((kys (prs f w h 0)).map λc=>((.inr c:Key),.int ((Mth.qX w (sel (prs f w h 0) c):Nat):Int))))):=by
 have ec:=K1 hw hh f;have ez:=HR (w:=w) (h:=h) f h0;have big:∀ {n:Nat},n<=1000->n<=sizeLine:=λh=>ZaF (bw h);have sm:=Gr hw hh (show 0<=24 by decide)
 have kl:=KZ (prs f w h 0);rw[tV] at kl;generalize hp:gO w h f=pp at ec ez ⊢
 refine nT (x:=eZ (startR [pp] 1)) ?_;refine lJ λQE hE=>?_;unfold eZ;walk_at "rd"
 rw[ez];walk_at "rd"
 rw[ec];walk_at "rd"
 unfold grp;rw[Bk (λc=>.lst ((sel (prs f w h 0) c).map cellP))];refine⟨by rw[List.length_map];exact big (by omega),?_⟩
 rw[vp (λc=>PV.tup [.str c,.lst ((sel (prs f w h 0) c).map cellP)]) (λc=>.tup [.str c,.int ((Mth.qX w (sel (prs f w h 0) c):Nat):Int)]) _ λc hc=>?_]
 ·walk_at "rd"
  exact Dq (λc=>.int ((Mth.qX w (sel (prs f w h 0) c):Nat):Int)) (vo _) (by omega) (hE _ rfl)
 ·refine⟨_,rfl,?_⟩;walk_at "rd"
  rw[HN (w:=(w:Int)) (h:=(h:Int)) ⟨by omega,by omega,by omega,by omega⟩ _ λa ha=>?_]
  ·walk_at "rd"
   exact⟨by decide,rfl⟩
  ·obtain⟨c,r,h1,h2,_,rfl⟩:=nZ.mp (tU.mp ha);exact⟨by omega,by omega,by omega,by omega⟩
def orN(S:Str->Nat)(ch:Str->List Nat)(k:Nat)(ks:List Str):Nat:=(ks.filter λc=>decide (k∈ch c)).foldl (λn c=>n ||| S c) 0
theorem Bm(S:Str->Nat)(ch:Str->List Nat)(k:Nat)(ks:List Str)(c:Str):orN S ch k (ks++[c])=if k∈ch c then orN S ch k ks ||| S c else orN S ch k ks:=by
 unfold orN;rw[ZbI];split
 ·rename_i h;rw[List.filter_cons_of_pos (by simpa using h),ZbP,List.foldl_append]
  rfl
 ·rename_i h;rw[List.filter_cons_of_neg (by simpa using h),ZbP,ZaM]
theorem Q9(S:Str->Nat)(ch:Str->List Nat)(k i:Nat)(ks:List Str):(orN S ch k ks).testBit i=true↔∃ c∈ks,k∈ch c/\(S c).testBit i=true:=by
 induction ks using snocInd with
 |nil=>unfold orN;simp
 |snoc ks c ih=>
  rw[Bm];split
  ·rename_i h;rw[Nat.testBit_or,Bool.or_eq_true,ih];constructor
   ·rintro(⟨d,h1,h2⟩|h2)
    ·exact⟨d,Zab.mpr (.inl h1),h2⟩
    ·exact⟨c,by simp,h,h2⟩
   ·rintro⟨d,h1,h2,h3⟩;rcases Zab.mp h1 with h1|h1
    ·exact .inl ⟨d,h1,h2,h3⟩
    ·rw[Zaj.mp h1] at h3;exact .inr h3
  ·rename_i h;rw[ih];constructor
   ·rintro⟨d,h1,h2⟩;exact⟨d,Zab.mpr (.inl h1),h2⟩
   ·rintro⟨d,h1,h2,h3⟩;rcases Zab.mp h1 with h1|h1
    ·exact⟨d,h1,h2,h3⟩
    ·rw[Zaj.mp h1] at h2;exact absurd h2 h
theorem Ra(k:Nat)(s:List Nat):inU (.int (k:Int)) (stP s)=some (decide (k∈s)):=
 FT (g:=λ(n:Nat)=>PV.int (n:Int)) (λa b=>by rw[eqF_int];congr 1;exact decide_eq_decide.mpr ⟨λe=>Int.ofNat.inj e,λe=>by rw[e]⟩) k s
theorem Bo{ks:List Str}(S:Str->Nat)(ch:Str->List Nat){d:List (Key×PV)}(hd:∀ c∈ks,cU d (.inr c)=some (stP (ch c)))(k:Nat) :
  lz [.dk (ks.map λc=>((.inr c:Key),.int (S c:Int))),.dk d,.int (k:Int)]=some (.ok (.int (orN S ch k ks:Int))):=by
 refine jO (x:=lw (startR [.dk (ks.map λc=>((.inr c:Key),.int (S c:Int))),.dk d,.int (k:Int)] 2)) ?_;refine lJ λQE hE=>?_;unfold lw;walk_at "rd"
 rw[Gq (λc=>.int (S c:Int))];refine dW (λi ρ=>∃ v4,ρ=[some (.sh (.dk (ks.map λc=>((.inr c:Key),.int (S c:Int))))),some (.sh (.dk d)),some (.sh (.int (k:Int))),some (.sh (.int (orN S ch k (ks.take i):Int))),v4]) ⟨_,rfl⟩ ?_ ?_
 ·rintro i x ρ hx ⟨v4,rfl⟩;rw[Zac] at hx;cases hc:ks[i]? with
  |none=>rw[hc] at hx;cases hx
  |some c=>
   rw[hc] at hx;cases hx;have hm:=ZaC hc;refine FQ λQS hQ _ _ _ _=>?_;unfold qF;walk_at "rd"
   refine⟨_,hd c hm,_,Ra _ _,?_⟩;rw[take_snoc hc,Bm] at hQ;refine vB (λh=>?_) λh=>?_
   ·rw[decide_eq_true_eq] at h;rw[Zah h] at hQ;unfold qD;walk_at "rd"
    rw[qK,Zah hm];refine⟨_,rfl,?_⟩;walk_at "rd"
    rw[wN];exact hQ _ ⟨_,rfl⟩
   ·rw[decide_eq_true_eq] at h;rw[Zai h] at hQ;exact hQ _ ⟨_,rfl⟩
 ·rintro ρ ⟨v4,rfl⟩;rw[List.length_map,List.take_length];show To _ _
  unfold qG;walk_at "rd"
  exact hE _ rfl
def qL(w h:Nat)(f:Nat->Nat->Str)(n:Nat)(ch:Str->List Nat):List Nat:=(List.range n).map λk=>orN (λc=>Mth.qX w (sel (prs f w h 0) c)) ch k (kys (prs f w h 0))
theorem yr{w h:Nat}(w0:1<=w)(h0:1<=h)(hw:w<=24)(hh:h<=24)(f:Nat->Nat->Str){paper:Str}{inks:List Ink}(h8:inks.length<=8)(ch:Str->List Nat){d:List (Key×PV)}(hd:∀ c∈kys (prs f w h 0),cU d (.inr c)=some (stP (ch c))) :
  jG [bnP paper inks,gO w h f,.dk d]=some (.ok (dX (qL w h f inks.length ch))):=by
 have es:=K4 w0 h0 hw hh f;have big:∀ {n:Nat},n<=1000->n<=sizeLine:=λh=>ZaF (bw h);generalize hp:gO w h f=pp at es ⊢
 refine nT (x:=jF (startR [bnP paper inks,pp,.dk d] 1)) ?_;refine lJ λQE hE=>?_;unfold jF bnP;walk_at "rd"
 rw[es];walk_at "rd"
 rw[List.length_map];refine⟨by omega,by omega,by rw[cG];exact big (by omega),?_⟩
 rw[qI,Za0,jL (λi=>PV.int ((i:Nat):Int)) (λk=>.int ((orN (λc=>Mth.qX w (sel (prs f w h 0) c)) ch k (kys (prs f w h 0)):Nat):Int)) _ λk hk=>?_]
 ·walk_at "rd"
  refine hE _ ?_;unfold dX qL;rw[Zbo];rfl
 ·walk_at "rd"
  rw[Bo (λc=>Mth.qX w (sel (prs f w h 0) c)) ch hd k];walk_at "rd"
theorem Dr:∀ {n:Nat}{s:List Nat},s∈stk n->s.Pairwise (·<·)
 |0,s,h=>by rw[Zaj.mp h];exact .nil
 |n+1,s,h=>by
  rcases Zab.mp h with h|h
  ·exact Dr h
  ·obtain⟨t,ht,rfl⟩:=Za1.mp h;rw[Zao];exact⟨Dr ht,List.pairwise_singleton _ _,λa ha b hb=>by rw[Zaj.mp hb];exact pF ht a ha⟩
theorem yt:∀ {n:Nat}{s:List Nat},s.Pairwise (·<·)->(∀ x∈s,x<n)->s∈stk n
 |0,s,_,h=>by
  cases s with
  |nil=>simp[stk]
  |cons a l=>exact absurd (h a List.mem_cons_self) (by omega)
 |n+1,s,p,h=>by
  rw[stk,Zab];rcases List.eq_nil_or_concat s with rfl|⟨t,a,rfl⟩
  ·exact .inl (yt .nil λx hx=>nomatch hx)
  ·rw[List.concat_eq_append] at p h ⊢;rw[Zao] at p;have ha:=h a (by simp)
   have ht:∀ x∈t,x<a:=λx hx=>p.2.2 x hx a (by simp)
   by_cases e:a=n
   ·subst e;exact .inr (Za1.mpr ⟨t,yt p.1 ht,rfl⟩)
   ·refine .inl (yt ?_ λx hx=>?_)
    ·rw[Zao];exact p
    ·rcases Zab.mp hx with hx|hx
     ·have:=ht x hx;omega
     ·rw[Zaj.mp hx];omega
theorem N8{s t:List Nat}(hs:s.Pairwise (·<·))(ht:t.Pairwise (·<·))(h:∀ x,x∈s↔x∈t):s=t:=by
 have nd:∀ {s:List Nat},s.Pairwise (·<·)->s.Nodup:=λh=>h.imp λq=>ZaG q;exact List.Perm.eq_of_pairwise (le:=λa b=>a<b) (λa b _ _ h1 h2=>by omega) hs ht ((List.perm_ext_iff_of_nodup (nd hs) (nd ht)).mpr h)
theorem Ia{n:Nat}{s:List Nat}(hs:s.Pairwise (·<·))(h:∀ x∈s,x<n):(List.range n).filter (λk=>decide (k∈s))=s:=
 N8 (List.pairwise_lt_range.filter _) hs λx=>by
  rw[Zbh,ZaA,decide_eq_true_eq];exact⟨λq=>q.2,λq=>⟨h x q,q⟩⟩
theorem Ds(l:List Nat)(p:Nat):d9 l p∈stk l.length:=yt (List.pairwise_lt_range.filter _) λx hx=>ZaA.mp (Zbh.mp hx).1
theorem Sy{w h c r c' r':Nat}(hc:c<w)(hc':c'<w)(e:Mth.pl w ((c':Int),(r':Int))=r*w+c):c'=c/\r'=r:=by
 have e:r'*w+c'=r*w+c:=e;rcases Nat.lt_trichotomy r' r with q|q|q
 ·have:(r'+1)*w<=r*w:=Nat.mul_le_mul_right _ q;rw[Nat.succ_mul] at this;omega
 ·subst q;exact⟨by omega,rfl⟩
 ·have:(r+1)*w<=r'*w:=Nat.mul_le_mul_right _ q;rw[Nat.succ_mul] at this;omega
theorem K5{w h:Nat}{f:Nat->Nat->Str}{n:Nat}{ch:Str->List Nat}{k i:Nat}(hk:k<n):((qL w h f n ch).getD k 0).testBit i=true↔∃ c r:Nat,c<w/\r<h/\k∈ch (f c r)/\r*w+c=i:=by
 unfold qL;rw[Zae,Zac,Za3 hk];show(orN _ ch k _).testBit i=true↔_
 rw[Q9];constructor
 ·rintro⟨s,hs,h1,h2⟩;rw[Mth.Eg,decide_eq_true_eq] at h2;obtain⟨a,ha,e⟩:=h2;obtain⟨c,r,hc,hr,rfl,rfl⟩:=nZ.mp (tU.mp ha);exact⟨c,r,hc,hr,h1,e⟩
 ·rintro⟨c,r,hc,hr,h1,e⟩;have hm:=(nZ (f:=f)).mpr ⟨c,r,hc,hr,rfl,rfl⟩;refine⟨f c r,qJ.mpr ⟨_,hm⟩,h1,?_⟩;rw[Mth.Eg,decide_eq_true_eq];exact⟨_,tU.mpr hm,e⟩
theorem yu(w h:Nat)(f:Nat->Nat->Str)(n:Nat)(ch:Str->List Nat):(qL w h f n ch).length=n:=by unfold qL;rw[List.length_map,List.length_range]
theorem Ib{w h:Nat}{f:Nat->Nat->Str}{n:Nat}{ch:Str->List Nat}{c r:Nat}(hc:c<w)(hr:r<h)(hs:ch (f c r)∈stk n):d9 (qL w h f n ch) (r*w+c)=ch (f c r):=by
 unfold d9;rw[yu];refine Eq.trans (List.filter_congr λk hk=>?_) (Ia (Dr hs) (pF hs));have hk:=ZaA.mp hk;rw[Bool.eq_iff_iff,K5 hk,decide_eq_true_eq];constructor
 ·rintro⟨c',r',h1,h2,h3,e⟩;obtain⟨rfl,rfl⟩:=Sy (h:=h) hc h1 (show Mth.pl w ((c':Int),(r':Int))=r*w+c from e);exact h3
 ·intro q;exact⟨c,r,hc,hr,q,rfl⟩
theorem Gs{w h:Nat}{f:Nat->Nat->Str}{n:Nat}{ch:Str->List Nat}{i:Nat}(hi:w*h<=i):d9 (qL w h f n ch) i=[]:=by
 unfold d9;rw[yu,List.filter_eq_nil_iff];intro k hk q;obtain⟨c,r,hc,hr,_,e⟩:=(K5 (ZaA.mp hk)).mp q;have:(r+1)*w<=h*w:=Nat.mul_le_mul_right _ hr;rw[Nat.succ_mul,Nat.mul_comm h w] at this;omega
theorem Ie{w h:Nat}{f g:Nat->Nat->Str}(e:∀ c r,c<w->r<h->f c r=g c r):gO w h f=gO w h g:=by
 unfold gO;congr 1
 refine Za2 λr hr=>?_;congr 1
 exact Za2 λc hc=>by rw[e c r (ZaA.mp hc) (ZaA.mp hr)]
theorem SJ{s t:List Nat}(h:gB (tkS s) (tkS t)=true):s.length<=t.length:=by
 unfold gB tkS at h;simp only at h;split at h
 ·rename_i e;exact Nat.le_of_eq (Int.ofNat.inj e)
 ·have:=ZaT h;omega
theorem Rc(n:Nat):(srt n).Pairwise λs t=>s.length<=t.length:=by
 have nd:((stk n).map tkS).Nodup:=List.Pairwise.map _ (λa b h e=>h (Gn e)) (yp n);have ok:GOk gB ((stk n).map tkS):=O9 nd λp hp q hq e=>by
  obtain⟨s,_,rfl⟩:=Za1.mp hp;obtain⟨t,_,rfl⟩:=Za1.mp hq;show(s.map _).length=(t.map _).length
  rw[List.length_map,List.length_map];exact Int.ofNat.inj e
 unfold srt;rw[List.pairwise_map];refine ok.ord.imp_of_mem λ{i j} hi hj h=>?_;have hi:=kZ i hi;have hj:=kZ j hj;have:=ok.O8 hi hj;rw[Zaz h] at this;rw[List.length_map] at hi hj;have ge:∀ {k:Nat},k<(stk n).length->((stk n).map tkS).getD k default=tkS ((stk n).getD k []):=λ{k} hk=>by
  rw[Zae,Zac,Zae,Zaa hk];rfl
 rw[ge hi,ge hj] at this;exact SJ this
theorem yw{inks:List Ink}{paper c:Str}(h:shw inks paper (srt inks.length) c≠[]):nq inks paper c∈stk inks.length/\bT inks paper (nq inks paper c)=c/\∀ s∈shw inks paper (srt inks.length) c,(nq inks paper c).length<=s.length:=by
 unfold nq;have pw:(shw inks paper (srt inks.length) c).Pairwise λs t=>s.length<=t.length:=(Rc _).filter _;have mem:∀ s∈shw inks paper (srt inks.length) c,s∈stk inks.length/\bT inks paper s=c:=λs hs=>by
  obtain⟨h1,h2⟩:=Zbh.mp hs;exact⟨(mD _).mem_iff.mp h1,ZaT h2⟩
 cases e:shw inks paper (srt inks.length) c with
 |nil=>exact absurd e h
 |cons s l=>
  rw[e] at pw mem;refine⟨(mem s List.mem_cons_self).1,(mem s List.mem_cons_self).2,λt ht=>?_⟩;rcases ZaW.mp ht with rfl|ht
  ·exact Zag _
  ·exact(List.pairwise_cons.mp pw).1 t ht
theorem Gu{inks:List Ink}{paper c:Str}{s:List Nat}(hs:s∈stk inks.length)(hc:bT inks paper s=c):s∈shw inks paper (srt inks.length) c:=Zbh.mpr ⟨(mD _).mem_iff.mpr hs,Zaz hc⟩
theorem Bp(ns:List Int)(k at_:Int)(k0:0<=k)(a0:0<=at_)(a1:at_<=900):∃ c n:Int,bF [.lst (ns.map .int),.int k]=some (.ok (.int c))/\bV [.lst (ns.map .int),.int k,.int at_]=some (.ok (.int n))/\0<=n/\((if c<0 then -c else c)<10^18->n<10^30+57):=by
 obtain⟨c,ec⟩:=lC ns k k0
 suffices h:∃ p,bV [.lst (ns.map .int),.int k,.int at_]=some (.ok p)/\∃ n:Int,p=.int n/\0<=n/\((if c<0 then -c else c)<10^18->n<10^30+57) by
  obtain⟨p,e,n,rfl,h⟩:=h;exact⟨c,n,ec,e,h⟩
 refine mU (x:=dZ (startR [.lst (ns.map .int),.int k,.int at_] 1)) ?_;unfold dZ;walk_at "rd"
 rw[ec];walk_at "rd"
 generalize hc:(if c<0 then -c else c)=d
 have d0:0<=d:=by rw[<-hc];split<;>omega
 obtain⟨n1,e1,l1⟩:=tR d at_ a0 (by omega)
 obtain⟨n,e2,l2⟩:=tR (n1:Int) (at_+1) (by omega) (by omega)
 refine⟨by decide,by decide,by decide,vB (λh=>?_) (λh=>?_)⟩
 ·unfold iH;walk_at "rd"
  exact⟨d0,λq=>absurd q (Int.not_lt.mpr h)⟩
 ·unfold iI;walk_at "rd"
  rw[e1];walk_at "rd"
  rw[e2];walk_at "rd"
  exact⟨Zbw _,λ_=>by omega⟩
theorem Dt(z:Int):∃ w h:Nat,iz [.int z]=some (.ok (.tup [.int (w:Int),.int (h:Int)]))/\1<=w/\w<=24/\1<=h/\h<=24:=by
 suffices g:∃ p,iz [.int z]=some (.ok p)/\∃ w h:Nat,p=.tup [.int (w:Int),.int (h:Int)]/\1<=w/\w<=24/\1<=h/\h<=24 by
  obtain⟨p,e,w,h,rfl,g⟩:=g;exact⟨w,h,e,g⟩
 have m:∀ (x k:Int),0<k->0<=x%k/\x%k<k:=λx k h=>⟨ZaU _ (Int.ne_of_gt h),ZaJ _ h⟩;refine mU (x:=jJ (startR [.int z] 0)) ?_;unfold jJ;walk_at "rd"
 refine⟨by decide,vB (λ_=>?_) λ_=>?_⟩
 ·have a:=m (z/9) 24 (by decide)
  have b:=m (z/300) 24 (by decide)
  unfold oM;walk_at "rd"
  refine⟨by decide,by decide,by decide,by decide,by decide,by decide,by decide,(1+z/9%24).toNat,(1+z/300%24).toNat,?_⟩
  rw[Zbt (by omega),Zbt (by omega)]
  exact⟨rfl,by omega,by omega,by omega,by omega⟩
 ·have a:=m (z/9) 6 (by decide)
  have b:=m (z/70) 5 (by decide)
  unfold oN;walk_at "rd"
  refine⟨by decide,by decide,by decide,by decide,by decide,by decide,by decide,(1+z/9%6).toNat,(1+z/70%5).toNat,?_⟩
  rw[Zbt (by omega),Zbt (by omega)]
  exact⟨rfl,by omega,by omega,by omega,by omega⟩
theorem Oa{v:Int}{x0 x1 x2 x3 x4 c:Nat}(h0:x0<c)(h1:x1<c)(h2:x2<c)(h3:x3<c)(h4:x4<c):∃ s:Nat,atI [PV.int (x0:Int),.int (x1:Int),.int (x2:Int),.int (x3:Int),.int (x4:Int)] (v%5)=some (.int (s:Int))/\s<c:=by
 have q0:=ZaU v (show(5:Int)≠0 by decide)
 have q5:=ZaJ v (show(0:Int)<5 by decide)
 rcases(show v%5=0\/v%5=1\/v%5=2\/v%5=3\/v%5=4 by omega) with q|q|q|q|q<;>rw[q]
 ·exact⟨x0,rfl,h0⟩
 ·exact⟨x1,rfl,h1⟩
 ·exact⟨x2,rfl,h2⟩
 ·exact⟨x3,rfl,h3⟩
 ·exact⟨x4,rfl,h4⟩
theorem yx(ns:List Int)(n c:Nat)(hn:n<=8)(hc:c<=576):∃ st:List Nat,fJ [.lst (ns.map .int),.int (n:Int),.int (c:Int)]=some (.ok (dX st))/\st.length=n/\∀ s∈st,s<2^c:=by
 suffices g:∃ p,fJ [.lst (ns.map .int),.int (n:Int),.int (c:Int)]=some (.ok p)/\∃ st:List Nat,p=dX st/\st.length=n/\∀ s∈st,s<2^c by
  obtain⟨p,e,st,rfl,g⟩:=g;exact⟨st,e,g⟩
 refine Nm (x:=gY (startR [.lst (ns.map .int),.int (n:Int),.int (c:Int)] 5)) ?_;refine lJ λQE hE=>?_;unfold gY;walk_at "rd"
 refine⟨by omega,by omega,?_⟩
 refine dW (λi ρ=>∃ (st:List Nat) (v4 v5 v6 v7:Option Sl),ρ=[some (.sh (.lst (ns.map .int))),some (.sh (.int (n:Int))),some (.sh (.int (c:Int))),some (.ow (dX st)),v4,v5,v6,v7]/\st.length=i/\∀ s∈st,s<2^c) ⟨[],none,none,none,none,rfl,rfl,λs h=>nomatch h⟩ ?_ ?_
 ·rintro i x ρ hx ⟨st,v4,v5,v6,v7,rfl,sl,sb⟩;obtain⟨hi,rfl⟩:=lD hx;refine rT λQS hQ=>?_;obtain⟨z,m,ez,em,m0,mb⟩:=Bp ns (12+(0+(i:Int))) (30+(0+(i:Int))) (by omega) (by omega) (by omega)
  obtain⟨p2,s,e1,s1⟩:=Sx m c;have fin:∀ (s:Nat) (v4 v5 v7:Option Sl),s<2^c->To (iJ [some (.sh (.lst (ns.map .int))),some (.sh (.int (n:Int))),some (.sh (.int (c:Int))),some (.ow (dX st)),v4,v5,some (.sh (.int (s:Int))),v7]) QS:=λs v4 v5 v7 hs=>by
   unfold iJ dX;walk_at "rd"
   refine⟨by rw[List.length_map];exact bw (by omega),hQ _ ⟨st++[s],v4,v5,some (.sh (.int (s:Int))),v7,?_,by simp[sl],λx hx=>?_⟩⟩
   ·unfold dX;rw[ZaP];rfl
   ·rcases Zab.mp hx with h|h
    ·exact sb x h
    ·rw[Zaj.mp h];exact hs
  unfold lN;walk_at "rd"
  rw[em];walk_at "rd"
  rw[e1,ez];walk_at "rd"
  refine⟨by omega,by omega,by decide,p2,by decide,by decide,by decide,vB (λhb=>?_) λ_=>fin s _ _ _ s1⟩
  have mb:=mb hb;unfold lM;walk_at "rd"
  refine⟨by decide,by decide,by omega,by omega,?_⟩
  refine dW (λj ρ=>∃ (t:Nat) (v7:Option Sl),ρ=[some (.sh (.lst (ns.map .int))),some (.sh (.int (n:Int))),some (.sh (.int (c:Int))),some (.ow (dX st)),some (.sh (.int (0+(i:Int)))),some (.sh (.int m)),some (.sh (.int (t:Int))),v7]/\t<10^(31*j)) ⟨0,_,rfl,by decide⟩ ?_ ?_
  ·rintro j x ρ hx ⟨t,v7,rfl,ht⟩;obtain⟨hj,rfl⟩:=lD hx;refine rT λQS hQ=>?_;have hj:j<=6:=by omega
   have tb:=grown ht (by omega)
   have jj:(0+(j:Int))*(0+(j:Int))<=6*6:=Int.mul_le_mul (by omega) (by omega) (by omega) (by decide)
   have jj0:0<=(0+(j:Int))*(0+(j:Int)):=Int.mul_nonneg (by omega) (by omega)
   have nb:m<10^250:=Int.lt_trans mb (by decide +kernel)
   unfold lK;walk_at "rd"
   have r0:0<=m*((0+(j:Int))*(0+(j:Int))+1)%(10^30+57):=ZaU _ (by decide)
   have r1:m*((0+(j:Int))*(0+(j:Int))+1)%(10^30+57)<10^30+57:=ZaJ _ (by decide)
   generalize m*((0+(j:Int))*(0+(j:Int))+1)%(10^30+57)=r at r0 r1 ⊢
   have sm:(100:Int)<10^250:=by decide +kernel
   refine⟨by decide,by decide,by decide,jP (by omega) tb,jP (by decide) (by decide +kernel),jP (by omega) (by omega),jP (by omega) (by omega),jP (by omega) nb,jP (by omega) (by omega),by decide,by decide,by decide,by decide,hQ _ ⟨t*10^30+r.toNat,some (.sh (.int (0+(j:Int)))),?_,grow ht (by omega)⟩⟩
   have er:((t*10^30+r.toNat:Nat):Int)=(t:Int)*10^30+r:=by omega
   rw[er]
  ·rintro ρ ⟨t,v7,rfl,ht⟩;obtain⟨_,s2,e2,h2⟩:=Sx (t:Int) c;have two:1*(2:Int)^((c:Int)).toNat-1=((2^c-1:Nat):Int):=by
    have p:0<2^c:=Nat.pow_pos (by decide)
    have e:1*(2:Int)^((c:Int)).toNat=((2^c:Nat):Int):=by simp
    rw[e];omega
   have p:0<2^c:=Nat.pow_pos (by decide)
   obtain⟨s3,e3,h3⟩:=Oa (v:=m/7) (x0:=s2) (x1:=0) (x2:=2^c-1) (x3:=s2) (x4:=s2) h2 p (by omega) h2 h2
   show To _ _
   unfold lL;walk_at "rd"
   rw[e2,two];refine⟨by omega,by omega,by decide,p2,by omega,by omega,by decide,by decide,by decide,by decide,by decide,_,e3,?_⟩
   exact fin _ _ _ _ h3
 ·rintro ρ ⟨st,v4,v5,v6,v7,rfl,sl,sb⟩;rw[cG] at sl;unfold lO;walk_at "rd"
  exact hE _ ⟨_,rfl,st,rfl,by omega,sb⟩
def cnt(n x:Nat):Nat:=((List.range n).filter λi=>x.testBit i).length
theorem K6(n x:Nat):cnt (n+1) x=x%2+cnt n (x/2):=by
 unfold cnt;rw[List.range_succ_eq_map,Za7,List.filter_map,Nat.testBit_zero];have e:(List.range n).filter ((λi=>x.testBit i) ∘ Nat.succ)=(List.range n).filter λi=>(x/2).testBit i:=List.filter_congr λi _=>by
  show x.testBit (i+1)=_
  rw[Nat.testBit_succ]
 rw[e];by_cases h:x%2=1
 ·rw[Zaz h,Zah rfl,ZaK,List.length_map,h];omega
 ·rw[ZaD h,Zai (by decide),List.length_map,show x%2=0 by omega];omega
theorem K7(n:Nat):cnt n 0=0:=by
 unfold cnt;rw[List.length_eq_zero_iff,List.filter_eq_nil_iff];intro i _;simp
theorem K8(x:Nat)(hx:x<2^999):eU [.int (x:Int)]=some (.ok (.int (cnt 999 x:Int))):=by
 refine jO (x:=jK (startR [.int (x:Int)] 1)) ?_;refine lJ λQE hE=>?_;unfold jK;walk_at "rd"
 refine KC (λm ρ=>∃ y t:Nat,ρ=[some (.sh (.int (y:Int))),some (.sh (.int (t:Int)))]/\y<2^m/\t+cnt m y=cnt 999 x) (n:=999) ⟨x,0,rfl,hx,Nat.zero_add _⟩ ?_;rintro m ρ ⟨y,t,rfl,hy,e⟩;walk_at "rd"
 refine vB (λh=>?_) λh=>?_
 ·have m0:0<m:=by
   rcases Nat.eq_zero_or_pos m with rfl|q
   ·simp at hy;omega
   ·exact q
  obtain⟨k,rfl⟩:∃ k,m=k+1:=⟨m-1,by omega⟩
  rw[K6] at e;refine⟨by omega,?_⟩
  unfold oO;walk_at "rd"
  refine⟨by decide,by decide,by decide,y/2,t+y%2,?_,?_,?_⟩
  ·rw[show((y/2:Nat):Int)=(y:Int)/2 by omega,show((t+y%2:Nat):Int)=(t:Int)+(y:Int)%2 by omega]
  ·rw[Nat.pow_succ] at hy;show y/2<2^k
   omega
  ·show t+y%2+cnt k (y/2)=_
   omega
 ·have y0:y=0:=by omega
  subst y0;rw[K7,Nat.add_zero] at e;show To _ _
  unfold oR;walk_at "rd"
  rw[e];exact hE _ rfl
theorem yz(n:Nat):∀ l:List Nat,(l.map (cnt n)).sum=((List.range n).map λp=>(l.filter λx=>x.testBit p).length).sum
 |[]=>by
  have e:∀ ps:List Nat,(ps.map λp=>(([]:List Nat).filter λx=>x.testBit p).length).sum=0:=λps=>by
   induction ps with
   |nil=>rfl
   |cons p ps ih=>rw[Zal,ZbE,ih];rfl
  exact(e _).symm
 |x::l=>by
  rw[Zal,ZbE,yz n l];unfold cnt;have e:∀ ps:List Nat,(ps.filter λi=>x.testBit i).length+(ps.map λp=>(l.filter λx=>x.testBit p).length).sum=(ps.map λp=>((x::l).filter λx=>x.testBit p).length).sum:=λps=>by
   induction ps with
   |nil=>rfl
   |cons p ps ih=>
    rw[Zal,Zal,ZbE,ZbE,<-ih,Za7,Za7];cases x.testBit p with
    |true=>rw[Zah rfl,Zah rfl,ZaK,ZaK];omega
    |false=>rw[Zai (by decide),Zai (by decide)];omega
  exact e _
theorem pG(l:List Nat)(p:Nat):(d9 l p).length=(l.filter λx=>x.testBit p).length:=by
 induction l using snocInd with
 |nil=>rfl
 |snoc l x ih=>
  unfold d9 at ih ⊢;rw[List.length_append,Zbx,List.range_succ,ZbI,ZbI,List.length_append,List.length_append,<-ih];have e1:(List.range l.length).filter (λk=>((l++[x]).getD k 0).testBit p)=(List.range l.length).filter λk=>(l.getD k 0).testBit p:=List.filter_congr λk hk=>by
   rw[Zae,Zae,Zav (ZaA.mp hk)]
  have e2:(l++[x]).getD l.length 0=x:=by
   rw[Zae,Zaw (Zag _),ZbO];rfl
  rw[e1,Za7,Za7,e2];congr 1
  cases x.testBit p<;>rfl
theorem K9{f g:Nat->Nat}(h:∀ p,f p<=g p):∀ ps:List Nat,(ps.map f).sum<=(ps.map g).sum
 |[]=>Zag _
 |p::ps=>by
  rw[Zal,Zal,ZbE,ZbE];exact Nat.add_le_add (h p) (K9 h ps)
theorem rW:∀ l:List Nat,fC (l.map λ(n:Nat)=>PV.int (n:Int))=some (l.map λ(n:Nat)=>(n:Int))
 |[]=>rfl
 |a::s=>by rw[Zal,fC,rW s];rfl
theorem Gv:∀ l:List Nat,(l.map λ(n:Nat)=>(n:Int)).sum=((l.sum:Nat):Int)
 |[]=>rfl
 |a::l=>by rw[Zal,ZbE,ZbE,Gv l];omega
theorem La(n w h:Nat)(f:Nat->Nat->Str):eqF (n+2) (gO w h f) (gO w h f)=some true:=by
 refine Ay λx hx=>?_;obtain⟨r,_,rfl⟩:=Za1.mp hx;refine Ay λx hx=>?_;obtain⟨c,_,rfl⟩:=Za1.mp hx;exact KJ _ _
theorem Ig{paper:Str}{inks:List Ink}{cols:List Str}(b:B17 paper inks cols){s:List Nat}(hs:∀ n∈s,n<inks.length):bT inks paper s∈cols:=by
 induction s using snocInd with
 |nil=>exact b.pp
 |snoc s n ih=>
  have ih:=ih λk hk=>hs k (Zab.mpr (.inl hk));have hn:=hs n (by simp)
  have ik:=b.ok (inks.getD n Az) (by rw[Zae,Zaa hn];exact List.getElem_mem hn)
  have e:bT inks paper (s++[n])=Dn (inks.getD n Az) (bT inks paper s):=by
   unfold bT;rw[List.foldl_append];rfl
  rw[e];generalize bT inks paper s=c at ih
  cases hi:inks.getD n Az with
  |cov a d=>rw[hi] at ik;exact ik
  |glz a ps=>
   rw[hi] at ik;show lkp ps c∈cols
   unfold lkp;cases e:ps.find? (λp=>decide (p.1=c)) with
   |none=>exact ih
   |some p=>exact(ik.2.2.1 p (List.mem_of_find?_eq_some e)).2
theorem Bq:∀ {l m:List Str},l.Nodup->(∀ x∈l,x∈m)->l.length<=m.length
 |[],m,_,_=>Zbb _
 |a::l,m,nd,h=>by
  obtain⟨n1,n2⟩:=ZbK.mp nd;obtain⟨s,t,rfl⟩:=List.append_of_mem (h a List.mem_cons_self);have:=Bq (l:=l) (m:=s++t) n2 λx hx=>by
   rcases Zab.mp (h x (List.mem_cons_of_mem _ hx)) with q|q
   ·exact Zab.mpr (.inl q)
   ·rcases ZaW.mp q with rfl|q
    ·exact absurd hx n1
    ·exact Zab.mpr (.inr q)
  simp only[List.length_append,ZaK] at this ⊢;omega
theorem law_main(ns:List Int)(hn:ns.length<=63):wM [.lst (ns.map .int)]=some (.ok (.bl true)):=by
 obtain⟨paper,inks,cols,eb,b⟩:=Bd ns;have h8:=b.n1;have n0:=b.n0;have big:∀ {n:Nat},n<=1000->n<=sizeLine:=λh=>ZaF (bw h);obtain⟨c11,ec⟩:=lC ns 11 (by decide)
 obtain⟨w,h,ez,w0,w1,h0,h1⟩:=Dt (c11%10^9);have sz:Sz (w:Int) (h:Int):=⟨by lia,by lia,by lia,by lia⟩
 have hwh:w*h<=24*24:=Nat.mul_le_mul w1 h1;obtain⟨st,est,sl,sb⟩:=yx ns inks.length (w*h) h8 (by lia)
 obtain⟨f,hf⟩:∃ f:Nat->Nat->Str,(λc r=>bT inks paper (d9 st (r*w+c)))=f:=⟨_,rfl⟩;have ep:gM [bnP paper inks,.tup [.int (w:Int),.int (h:Int)],dX st]=some (.ok (gO w h f)):=by
  have:=rU sz paper inks st (by lia) h8
  rw[Za0,Za0,hf] at this;exact this
 have st_in:∀ p,d9 st p∈stk inks.length:=λp=>by have:=Ds st p;rwa [sl] at this
 have fcr:∀ c r,f c r=bT inks paper (d9 st (r*w+c)):=λc r=>by rw[<-hf]
 have hs:∀ c∈kys (prs f w h 0),shw inks paper (srt inks.length) c≠[]:=λc hc e=>by
  obtain⟨a,ha⟩:=qJ.mp hc;obtain⟨c',r,_,_,rfl,_⟩:=nZ.mp ha;have:=Gu (paper:=paper) (st_in (r*w+c')) (fcr c' r).symm;rw[e] at this;cases this
 have h64:(kys (prs f w h 0)).length<64:=by
  have:=Bq (m:=cols) (vo (prs f w h 0)) λc hc=>by
   obtain⟨a,ha⟩:=qJ.mp hc;obtain⟨c',r,_,_,rfl,_⟩:=nZ.mp ha;rw[fcr];exact Ig b (pF (st_in _))
  have:=b.c1;lia
 have el:=K3 (paper:=paper) w1 h1 f h8 h64 hs;have sp:=j0 (kys (prs f w h 0));have hk:∀ c r,c<w->r<h->f c r∈kys (prs f w h 0):=λc r hc hr=>qJ.mpr ⟨_,nZ.mpr ⟨c,r,hc,hr,rfl,rfl⟩⟩;have vl:∀ c∈kys (prs f w h 0),cU ((qp (kys (prs f w h 0))).map λc=>((.inr c:Key),stP (nq inks paper c))) (.inr c)=some (stP (nq inks paper c)):=λc hc=>by
  rw[qK (F:=λc=>stP (nq inks paper c)),Zah (sp.mem_iff.mpr hc)]
 have eg:=yr (paper:=paper) w0 h0 w1 h1 f h8 (nq inks paper) vl;obtain⟨ag,hag⟩:∃ ag,qL w h f inks.length (nq inks paper)=ag:=⟨_,rfl⟩;have agl:ag.length=inks.length:=by rw[<-hag];exact yu _ _ _ _ _
 have ags:∀ c r,c<w->r<h->d9 ag (r*w+c)=nq inks paper (f c r):=λc r hc hr=>by
  rw[<-hag];exact Ib hc hr (yw (hs _ (hk c r hc hr))).1
 have ep2:gM [bnP paper inks,.tup [.int (w:Int),.int (h:Int)],dX ag]=some (.ok (gO w h f)):=by
  have:=rU sz paper inks ag (by lia) h8
  rw[Za0,Za0,Ie (g:=f) λc r hc hr=>?_] at this
  ·exact this
  ·rw[ags c r hc hr];exact(yw (hs _ (hk c r hc hr))).2.1
 have le1:∀ c r,c<w->r<h->(nq inks paper (f c r)).length<=(st.filter λx=>x.testBit (r*w+c)).length:=λc r hc hr=>by
  rw[<-pG];exact(yw (hs _ (hk c r hc hr))).2.2 _ (Gu (st_in _) (fcr c r).symm)
 have le2:∀ p,(ag.filter λx=>x.testBit p).length<=(st.filter λx=>x.testBit p).length:=λp=>by
  rcases Nat.lt_or_ge p (w*h) with q|q
  ·have hc:p%w<w:=Nat.mod_lt _ w0;have hr:p/w<h:=Nat.div_lt_of_lt_mul q;have e:p/w*w+p%w=p:=by rw[Nat.mul_comm];exact Nat.div_add_mod p w
   have:=le1 (p%w) (p/w) hc hr;rw[e] at this;rw[<-pG,<-e,ags _ _ hc hr];rw[e];exact this
  ·rw[<-pG,<-hag,Gs q];exact Zbb _
 rw[hag] at eg;have agb:∀ s∈ag,s<2^(w*h):=λs hs=>by
  refine Nat.lt_pow_two_of_testBit _ λi hi=>?_;obtain⟨k,hk,rfl⟩:=List.getElem_of_mem hs;have o:=Gs (w:=w) (h:=h) (f:=f) (n:=inks.length) (ch:=nq inks paper) hi;rw[hag] at o;unfold d9 at o;rw[List.filter_eq_nil_iff] at o;have:=o k (ZaA.mpr hk);rw[Zae,Zaa hk] at this;simpa using this
 have up:∀ {s:Nat},s<2^(w*h)->s<2^999:=λq=>Zap q (Nat.pow_le_pow_right (by decide) (by lia))
 have sums:∀ {l:List Nat} (Q:Int->Prop),l.length=inks.length->(∀ s∈l,s<2^(w*h))->Q (((l.map (cnt 999)).sum:Nat):Int)->Tv (dB (gN 0) jw (bI eU (aJ (mV 0) bA)) [none] (l.map λ(n:Nat)=>PV.int (n:Int))) (λr=>∃ n nn,fC r=some (n::nn)/\Q ((n::nn).sum)):=λ{l} Q ll lb q=>by
  rw[jL (λ(n:Nat)=>PV.int (n:Int)) (λn=>.int ((cnt 999 n:Nat):Int)) l λn hn=>?_,tv_some]
  ·have e:=rW (l.map (cnt 999));rw[Zbo] at e;have s2:=Gv (l.map (cnt 999));cases hl:l with
   |nil=>rw[hl] at ll;simp at ll;lia
   |cons a l'=>
    rw[hl] at e s2 q;refine⟨_,_,e,?_⟩;rw[<-s2] at q;exact q
  ·walk_at "rd"
   rw[K8 n (up (lb n hn))];walk_at "rd"
 refine jO (x:=Gg (startR [.lst (ns.map .int)] 13)) ?_;refine lJ λQE hE=>?_;unfold Gg;walk_at "rd"
 rw[eb];walk_at "rd"
 rw[ec];walk_at "rd"
 rw[ez];unfold bnP at *;walk_at "rd"
 rw[List.length_map,show(w:Int)*(h:Int)=((w*h:Nat):Int) by rw[Int.natCast_mul],est]
 walk_at "rd"
 rw[ep];walk_at "rd"
 rw[el];walk_at "rd"
 rw[eg];walk_at "rd"
 rw[ep2];walk_at "rd"
 refine⟨by decide,by decide,by decide,by decide,.inl ⟨by lia,by lia⟩,by decide,by decide,true,La _ _ _ _,?_⟩
 rw[Zai (by decide)]
 clear eb est ep el eg ep2
 generalize PV.tup [PV.str paper,PV.lst (inks.map lE)]=bp
 obtain⟨dd,hdd⟩:∃ dd,(qp (kys (prs f w h 0))).map (λc=>((.inr c:Key),stP (nq inks paper c)))=dd:=⟨_,rfl⟩;rw[hdd] at vl ⊢;unfold Gf;walk_at "rd"
 refine⟨by lia,by lia,?_⟩
 refine dW (λi ρ=>∃ v9 v10 v11 v12,ρ=[some (.sh (.lst (ns.map .int))),some (.sh bp),some (.sh (.lst (cols.map .str))),some (.sh (.int (w:Int))),some (.sh (.int (h:Int))),some (.sh (dX st)),some (.sh (gO w h f)),some (.sh (.dk dd)),some (.sh (dX ag)),v9,v10,v11,v12,none]) ⟨none,none,none,none,rfl⟩ ?_ ?_
 ·rintro r x ρ hx ⟨v9,v10,v11,v12,rfl⟩;obtain⟨hr,rfl⟩:=lD hx;have hr:r<h:=by lia
  refine FQ λQS hQ _ _ _ _=>?_;rw[Int.zero_add];unfold Gd;walk_at "rd"
  refine⟨by lia,by lia,?_⟩
  refine dW (λj ρ=>∃ v10 v11 v12,ρ=[some (.sh (.lst (ns.map .int))),some (.sh bp),some (.sh (.lst (cols.map .str))),some (.sh (.int (w:Int))),some (.sh (.int (h:Int))),some (.sh (dX st)),some (.sh (gO w h f)),some (.sh (.dk dd)),some (.sh (dX ag)),some (.sh (.int (r:Int))),v10,v11,v12,none]) ⟨_,_,_,rfl⟩ ?_ ?_
  ·rintro c x ρ hx ⟨v10,v11,v12,rfl⟩;obtain⟨hc,rfl⟩:=lD hx;have hc:c<w:=by lia
   refine FQ λQS hQ _ _ _ _=>?_;rw[Int.zero_add];unfold Gb;rw[show dX st=.lst (st.map λ(n:Nat)=>PV.int (n:Int)) from rfl,show gO w h f=.lst ((List.range h).map λr=>.lst ((List.range w).map λc=>.str (f c r))) from rfl] at *;walk_at "rd"
   rw[show(r:Int)*(w:Int)+(c:Int)=((r*w+c:Nat):Int) by rw[Int.natCast_add,Int.natCast_mul]]
   refine⟨.inl ⟨by lia,by lia⟩,by rw[List.length_map];exact big (by lia),?_⟩
   rw[Gj (λ(n:Nat)=>PV.int (n:Int)) (λ(n:Nat)=>PV.int (n:Int)) (λx=>x.testBit (r*w+c)) _ (λn _=>?_) λn _ _=>?_];rotate_left
   ·walk_at "rd"
    refine⟨Zbw _,by decide,?_⟩
    rw[Za0,show((n:Int)/2^(r*w+c))%2=(((n/2^(r*w+c))%2:Nat):Int) by simp,Nat.testBit_eq_decide_div_mod_eq]
    exact decide_eq_decide.mpr ⟨λe=>Int.ofNat.inj e,λe=>by rw[e];rfl⟩
   ·walk_at "rd"
   walk_at "rd"
   refine⟨_,iR (by rw[Zac,Za3 hr];rfl),?_⟩
   walk_at "rd"
   refine⟨_,iR (by rw[Zac,Za3 hc];rfl),?_⟩
   walk_at "rd"
   refine⟨_,vl _ (hk c r hc hr),?_⟩;unfold stP;walk_at "rd"
   rw[List.length_map,List.length_map];have:=le1 c r hc hr;rw[Zai (by lia)]
   exact hQ _ ⟨_,_,_,rfl⟩
  ·rintro ρ ⟨v10,v11,v12,rfl⟩;exact hQ _ ⟨_,_,_,_,rfl⟩
 ·rintro ρ ⟨v9,v10,v11,v12,rfl⟩;show To _ _
  unfold Ge;rw[show dX st=.lst (st.map λ(n:Nat)=>PV.int (n:Int)) from rfl,show dX ag=.lst (ag.map λ(n:Nat)=>PV.int (n:Int)) from rfl];walk_at "rd"
  refine⟨by rw[List.length_map];exact big (by lia),sums (λz=>(st.map λ(n:Nat)=>PV.int (n:Int)).length<=sizeLine/\Tv (dB (gN 0) jw (bI eU (aJ (mV 0) bA)) [none] (st.map λ(n:Nat)=>PV.int (n:Int))) λa=>∃ n ns,fC a=some (n::ns)/\QE (.rt (.bl (decide (z<=(n::ns).sum))))) agl agb ?_⟩
  refine⟨by rw[List.length_map];exact big (by lia),sums (λy=>QE (.rt (.bl (decide ((((ag.map (cnt 999)).sum:Nat):Int)<=y))))) sl sb ?_⟩
  refine hE _ ?_;rw[yz,yz];have:=K9 le2 (List.range 999);rw[Zaz (Int.ofNat_le.mpr this)];rfl
def top(i:Nat):Stmt:=PySem.Challenge.pw_lostblock_k21_whole_pressed_and_wished.main.body.getD i (.Pass ⟨0,0,0,0⟩)
noncomputable abbrev LP:Pos:=⟨42,30,42,63⟩
noncomputable abbrev LQ:Str:=(envOfC "all_stacks" (aA (top 14)) 0 0 .none).qual++"<lambda>"
def eD(P:Params)(x:Str)(t:Tok)(v:Value):DictEntry:={ hash:=PyData.keyHash P x,key:=.str x t,val:=v }
def fO(n:Str)(i:Nat)(pm:Value)(c:Nat):Obj:={ cls:=.type "function",data:=.func (fnOf n n (bj (top i)) (aZ (top i)) (aA (top i)) .none .none .none pm none (.ref c) .none) }
def cO(n:Str)(t1 t2 t3:Tok)(l k:Int)(a:Nat)(m:Int)(b:Nat)(u v:Value)(c:Nat)(z:Int)(t4:Tok):Obj:={ cls:=.type "code",data:=.fields #[.str n t1,.str n t2,.str "/claim/cut.py" t3,.int l 0,.int k 0,.int 0 0,.int 0 0,.int 3 0,.ref a,.bool true,.int m 0,.ref b,.none,u,v,.ref c,.int z 0,.int l 0,.str "/claim/cut.py" t4] }
def KK:Params->Frag:=λP=>(nat_lit 3,{ cls:=.type "dict",data:=.dict #[eD P "__name__" 165 (.str "law_lostblock_k21_whole_pressed_and_wished" 382),eD P "__doc__" 166 .none,eD P "__package__" 167 .none,eD P "__loader__" 168 (.builtin "__main__.__loader__#opaque"),eD P "__spec__" 169 .none,eD P "__annotations__" 170 (.ref 6),eD P "__builtins__" 171 (.ref 4),eD P "__file__" 173 (.str "/claim/cut.py" 172),eD P "__cached__" 174 .none,eD P "BlockError" 206 (.ref 24),eD P "NoStack" 235 (.ref 44),eD P "place_of" 245 (.ref 53),eD P "has_cell" 254 (.ref 60),eD P "set_of" 264 (.ref 67),eD P "COVER" 268 (.str "cover" 267),eD P "laid" 278 (.ref 74),eD P "colour_of" 288 (.ref 81),eD P "size_of" 297 (.ref 88),eD P "all_stacks" 305 (.ref 93),eD P "stacks_by_colour" 314 (.ref 100),eD P "cells_by_colour" 326 (.ref 107),eD P "stacks_for" 332 (.ref 112),eD P "least_choices" 338 (.ref 117),eD P "sets_by_colour" 344 (.ref 122),eD P "state_of" 355 (.ref 129),eD P "states_by" 361 (.ref 134),eD P "stack_at" 369 (.ref 139),eD P "pressed_row" 375 (.ref 144),eD P "pressed" 381 (.ref 149),eD P "_law_cell_at" 391 (.ref 156),eD P "_law_mixed" 399 (.ref 163),eD P "_law_number" 409 (.ref 170),eD P "_law_word" 417 (.ref 177),eD P "_law_glaze" 423 (.ref 182),eD P "_law_bench" 429 (.ref 187),eD P "_law_shows" 442 (.ref 194),eD P "_law_all" 448 (.ref 199),eD P "_law_order" 455 (.ref 206),eD P "_law_size" 462 (.ref 213),eD P "_law_states" 476 (.ref 220),eD P "_law_many" 484 (.ref 227),eD P "law" 490 (.ref 232)] 42 })::(nat_lit 52,cO "place_of" 238 239 240 11 2 47 181 48 (.ref 49) (.ref 50) 51 243 244)::(nat_lit 53,fO "place_of" 4 (.str "lostblock.boards" 236) 52)::(nat_lit 59,cO "has_cell" 246 247 248 13 3 54 181 55 (.ref 56) (.ref 57) 58 252 253)::(nat_lit 60,fO "has_cell" 5 (.str "lostblock.boards" 236) 59)::(nat_lit 66,cO "set_of" 255 256 257 15 2 61 181 62 (.ref 63) (.ref 64) 65 262 263)::(nat_lit 67,fO "set_of" 6 (.str "lostblock.boards" 236) 66)::(nat_lit 73,cO "laid" 269 270 271 22 2 68 181 69 (.ref 70) (.ref 71) 72 276 277)::(nat_lit 74,fO "laid" 9 (.str "lostblock.inks" 265) 73)::(nat_lit 80,cO "colour_of" 279 280 281 29 2 75 181 76 (.ref 77) (.ref 78) 79 286 287)::(nat_lit 81,fO "colour_of" 10 (.str "lostblock.inks" 265) 80)::(nat_lit 87,cO "size_of" 291 292 293 35 1 82 181 83 (.ref 84) (.ref 85) 86 295 296)::(nat_lit 88,fO "size_of" 12 (.str "lostblock.pictures" 289) 87)::(nat_lit 90,PySem.W.tabObj #[])::(nat_lit 92,cO "all_stacks" 300 301 302 38 1 89 181 90 .none .none 91 303 304)::(nat_lit 93,fO "all_stacks" 14 (.str "lostblock.stacks" 298) 92)::(nat_lit 99,cO "stacks_by_colour" 306 307 308 43 1 94 181 95 (.ref 96) (.ref 97) 98 312 313)::(nat_lit 100,fO "stacks_by_colour" 15 (.str "lostblock.stacks" 298) 99)::(nat_lit 106,cO "cells_by_colour" 315 316 317 48 1 101 181 102 (.ref 103) (.ref 104) 105 324 325)::(nat_lit 107,fO "cells_by_colour" 16 (.str "lostblock.stacks" 298) 106)::(nat_lit 111,cO "stacks_for" 327 328 329 54 2 108 181 109 .none .none 110 330 331)::(nat_lit 112,fO "stacks_for" 17 (.str "lostblock.stacks" 298) 111)::(nat_lit 116,cO "least_choices" 333 334 335 61 2 113 181 114 .none .none 115 336 337)::(nat_lit 117,fO "least_choices" 18 (.str "lostblock.stacks" 298) 116)::(nat_lit 121,cO "sets_by_colour" 339 340 341 63 1 118 181 119 .none .none 120 342 343)::(nat_lit 122,fO "sets_by_colour" 19 (.str "lostblock.stacks" 298) 121)::(nat_lit 128,cO "state_of" 345 346 347 66 3 123 181 124 (.ref 125) (.ref 126) 127 353 354)::(nat_lit 129,fO "state_of" 20 (.str "lostblock.stacks" 298) 128)::(nat_lit 133,cO "states_by" 356 357 358 72 3 130 181 131 .none .none 132 359 360)::(nat_lit 134,fO "states_by" 21 (.str "lostblock.stacks" 298) 133)::(nat_lit 138,cO "stack_at" 364 365 366 76 3 135 181 136 .none .none 137 367 368)::(nat_lit 139,fO "stack_at" 23 (.str "lostblock.press" 362) 138)::(nat_lit 143,cO "pressed_row" 370 371 372 78 4 140 181 141 .none .none 142 373 374)::(nat_lit 144,fO "pressed_row" 24 (.str "lostblock.press" 362) 143)::(nat_lit 148,cO "pressed" 376 377 378 80 3 145 181 146 .none .none 147 379 380)::(nat_lit 149,fO "pressed" 25 (.str "lostblock.press" 362) 148)::(nat_lit 155,cO "_law_cell_at" 384 385 386 83 2 150 181 151 (.ref 152) (.ref 153) 154 389 390)::(nat_lit 156,fO "_law_cell_at" 27 (.str "law_lostblock_k21_whole_pressed_and_wished" 382) 155)::(nat_lit 162,cO "_law_mixed" 392 393 394 87 2 157 181 158 (.ref 159) (.ref 160) 161 397 398)::(nat_lit 163,fO "_law_mixed" 28 (.str "law_lostblock_k21_whole_pressed_and_wished" 382) 162)::(nat_lit 169,cO "_law_number" 400 401 402 89 3 164 181 165 (.ref 166) (.ref 167) 168 407 408)::(nat_lit 170,fO "_law_number" 29 (.str "law_lostblock_k21_whole_pressed_and_wished" 382) 169)::(nat_lit 176,cO "_law_word" 410 411 412 94 2 171 181 172 (.ref 173) (.ref 174) 175 415 416)::(nat_lit 177,fO "_law_word" 30 (.str "law_lostblock_k21_whole_pressed_and_wished" 382) 176)::(nat_lit 181,cO "_law_glaze" 418 419 420 96 2 178 181 179 .none .none 180 421 422)::(nat_lit 182,fO "_law_glaze" 31 (.str "law_lostblock_k21_whole_pressed_and_wished" 382) 181)::(nat_lit 186,cO "_law_bench" 424 425 426 105 1 183 181 184 .none .none 185 427 428)::(nat_lit 187,fO "_law_bench" 32 (.str "law_lostblock_k21_whole_pressed_and_wished" 382) 186)::(nat_lit 212,cO "_law_size" 456 457 458 134 1 207 181 208 (.ref 209) (.ref 210) 211 460 461)::(nat_lit 213,fO "_law_size" 36 (.str "law_lostblock_k21_whole_pressed_and_wished" 382) 212)::(nat_lit 219,cO "_law_states" 463 464 465 138 3 214 181 215 (.ref 216) (.ref 217) 218 474 475)::(nat_lit 220,fO "_law_states" 37 (.str "law_lostblock_k21_whole_pressed_and_wished" 382) 219)::(nat_lit 226,cO "_law_many" 477 478 479 151 1 221 181 222 (.ref 223) (.ref 224) 225 482 483)::(nat_lit 227,fO "_law_many" 38 (.str "law_lostblock_k21_whole_pressed_and_wished" 382) 226)::(nat_lit 231,cO "law" 485 486 487 157 1 228 181 229 .none .none 230 488 489)::(nat_lit 232,fO "law" 39 (.str "law_lostblock_k21_whole_pressed_and_wished" 382) 231)::[]
structure Txt(mg:Str->Option Value):Prop where
 tt:True
 Ph:mg "abs"=none
 DP:mg "dict"=none
 nu:mg "enumerate"=none
 j9:mg "len"=none
 gr:mg "range"=none
 BL:mg "sorted"=none
 Pj:mg "sum"=none
 Gw:mg "tuple"=none
 Oc:∃ t,mg "COVER"=some (.str "cover" t)
section
seal PE PA PS PSs PG PGs PI PPs MJ MT MA MAL MO MS MG MGs MI
variable{P:Program}{w:World}{K:Frag}{mg:Str->Option Value}{base:Heap}
theorem Br:bf ["size","cell"] ["size","cell"] (aA (top 4)):=⟨rfl,rfl,rfl,by decide +kernel,rfl,by decide +kernel,by decide +kernel⟩
theorem Bt(T:Txt mg)(D:bh K mg "place_of" (top 4) ["size","cell"]):FnAt P w K mg base "place_of" 1 ["size","cell"] (spM K XR0 gK):=by
 refine D.ok Br (λvs H Q E h=>dq h λps r e=>match ps,e with|[_,_],_=>rfl) (λf cdv A outer s H vs Q E hr h=>?_)
 refine⟨_,(aQ (bL (aO bH (aO pX (dJ cL (pv 1) aC (λ_ _=>rfl)) (dJ cL (pv 0) aC (λ_ _=>rfl))) (dJ cL (pv 1) aC (λ_ _=>rfl))))),dD (b:=pC) (k:=2) (n:=0) rfl (λps r e=>match ps,e with|[_,_],e=>⟨rfl,e⟩) h λio H0 F0 hio=>?_⟩
 exact(cV (aB aF.up dz (aB aF.up zA (aB aF.up iG (ak 1) aG) (aB aF.up iG (ak 0) aG)) (aB aF.up iG (ak 1) aG)))
theorem Bu:bf ["size","some","cell"] ["size","some","cell"] (aA (top 5)):=⟨rfl,rfl,rfl,by decide +kernel,rfl,by decide +kernel,by decide +kernel⟩
theorem Bv(T:Txt mg)(D:bh K mg "has_cell" (top 5) ["size","some","cell"])(pI:FnAt P w K mg base "place_of" 1 ["size","cell"] (spM K XR0 gK)):FnAt P w K mg base "has_cell" 2 ["size","some","cell"] (spM K XR0 lu):=by
 refine D.ok Bu (λvs H Q E h=>dq h λps r e=>match ps,e with|[_,_,_],_=>rfl) (λf cdv A outer s H vs Q E hr h=>?_)
 refine⟨_,(aQ (bL (Ea (uq hr) (aO Qa (aO Ja (pv 1) (aW pI (hr.mono (by decide)) rfl (aj (pv 0) (aj (pv 2) au)))) aC) aC (gC _)))),dD (b:=pD) (k:=3) (n:=0) rfl (λps r e=>match ps,e with|[_,_,_],e=>⟨rfl,e⟩) h λio H0 F0 hio=>?_⟩
 exact(cV (aB aH.up JC (fB (aB aF.up RX (aB aF.up OD (ak 1) (bO (ao (ak 0) (ao (ak 2) aN)))) aG)) (fB aG)))
theorem n6:bf ["size","cells","some","cell"] ["size","cells"] (aA (top 6)):=⟨rfl,rfl,rfl,by decide +kernel,rfl,by decide +kernel,by decide +kernel⟩
theorem Ii(T:Txt mg)(D:bh K mg "set_of" (top 6) ["size","cells"])(pI:FnAt P w K mg base "place_of" 1 ["size","cell"] (spM K XR0 gK)):FnAt P w K mg base "set_of" 2 ["size","cells"] (spM K XR0 qC):=by
 refine D.ok n6 (λvs H Q E h=>dq h λps r e=>match ps,e with|[_,_],_=>rfl) (λf cdv A outer s H vs Q E hr h=>?_)
 refine⟨_,(aM (bx (i:=2) n6.nd rfl (Or.inl rfl) aC)
   (aM (fQ ZaV rfl (gQ (pv 1)) (bW (i:=3) n6.nd rfl (Or.inl rfl))
    (aQ (bx (i:=2) n6.nd rfl (Or.inl rfl) (aO Oi (pv 2) (aO wQ aC (aW pI (hr.mono (by decide)) rfl (aj (pv 0) (aj (pv 3) au))))))))
   (aQ (bL (pv 2))))),dD (b:=u5) (k:=2) (n:=2) rfl (λps r e=>match ps,e with|[_,_],e=>⟨rfl,e⟩) h λio H0 F0 hio=>?_⟩
 exact(aX (bC aG (aL 2))
   (aX (gG (iU (ak 1)) (aL 3)
    (bC (aB aF.up RZ (ak 2) (aB aF.up Ep aG (bO (ao (ak 0) (ao (ak 3) aN))))) (aL 2)))
   (cV (ak 2))))
theorem yC:bf ["ink","colour","under","over"] ["ink","colour"] (aA (top 9)):=⟨rfl,rfl,rfl,by decide +kernel,rfl,by decide +kernel,by decide +kernel⟩
theorem Ob(T:Txt mg)(D:bh K mg "laid" (top 9) ["ink","colour"]):FnAt P w K mg base "laid" 1 ["ink","colour"] (spM K XR0 ym):=by
 refine D.ok yC (λvs H Q E h=>dq h λps r e=>match ps,e with|[_,_],_=>rfl) (λf cdv A outer s H vs Q E hr h=>?_)
 refine⟨_,(aM (lF (eE (uq hr) (dJ cL (pv 0) aC (λ_ _=>rfl)) (RC rfl T.Oc) (gC _))
    (aQ (bL (dJ cL (pv 0) aC (λ_ _=>rfl))))
    fV)
   (aM (fQ ZaV rfl (gQ (dJ cL (pv 0) aC (λ_ _=>rfl))) (qU (n:=2) rfl (cM (bW (i:=2) yC.nd rfl (Or.inl rfl)) (cM (bW (i:=3) yC.nd rfl (Or.inl rfl)) jx)))
    (aQ (lF (eE (uq hr) (pv 2) (pv 1) (gC _))
     (aQ (bL (pv 3)))
     fV)))
   (aQ (bL (pv 1))))),dD (b:=yj) (k:=2) (n:=2) rfl (λps r e=>match ps,e with|[_,_],e=>⟨rfl,e⟩) h λio H0 F0 hio=>?_⟩
 exact(aX (lH (dM (aB aH.up JC (fB (aB aF.up iG (ak 0) aG)) (fB q9)))
    (cV (aB aF.up iG (ak 0) aG))
    fX)
   (aX (gG (iU (aB aF.up iG (ak 0) aG)) (lZ (cQ (aL 2) (cQ (aL 3) jA)))
    (lH (dM (aB aH.up JC (eX 2) (eX 1)))
     (cV (ak 3))
     fX))
   (cV (ak 1))))
theorem jf:bf ["bench","stack","colour","number"] ["bench","stack"] (aA (top 10)):=⟨rfl,rfl,rfl,by decide +kernel,rfl,by decide +kernel,by decide +kernel⟩
theorem yD(T:Txt mg)(D:bh K mg "colour_of" (top 10) ["bench","stack"])(Rh:FnAt P w K mg base "laid" 1 ["ink","colour"] (spM K XR0 ym)):FnAt P w K mg base "colour_of" 2 ["bench","stack"] (spM K XR0 eO):=by
 refine D.ok jf (λvs H Q E h=>dq h λps r e=>match ps,e with|[_,_],_=>rfl) (λf cdv A outer s H vs Q E hr h=>?_)
 refine⟨_,(aM (bx (i:=2) jf.nd rfl (Or.inl rfl) (dJ cL (pv 0) aC (λ_ _=>rfl)))
   (aM (fQ ZaV rfl (gQ (pv 1)) (bW (i:=3) jf.nd rfl (Or.inl rfl))
    (aQ (bx (i:=2) jf.nd rfl (Or.inl rfl) (aW Rh (hr.mono (by decide)) rfl (aj (dJ cL (dJ cL (pv 0) aC (λ_ _=>rfl)) (pv 3) (λ_ _=>rfl)) (aj (pv 2) au))))))
   (aQ (bL (pv 2))))),dD (b:=jE) (k:=2) (n:=2) rfl (λps r e=>match ps,e with|[_,_],e=>⟨rfl,e⟩) h λio H0 F0 hio=>?_⟩
 exact(aX (bC (aB aF.up iG (ak 0) aG) (aL 2))
   (aX (gG (iU (ak 1)) (aL 3)
    (bC (bO (ao (aB aF.up iG (aB aF.up iG (ak 0) aG) (ak 3)) (ao (ak 2) aN))) (aL 2)))
   (cV (ak 2))))
theorem Du:bf ["picture"] ["picture"] (aA (top 12)):=⟨rfl,rfl,rfl,by decide +kernel,rfl,by decide +kernel,by decide +kernel⟩
theorem Dv(T:Txt mg)(D:bh K mg "size_of" (top 12) ["picture"]):FnAt P w K mg base "size_of" 1 ["picture"] (spM K XR0 nW):=by
 refine D.ok Du (λvs H Q E h=>dq h λps r e=>match ps,e with|[_],_=>rfl) (λf cdv A outer s H vs Q E hr h=>?_)
 refine⟨_,(aQ (bL (d7 (aj (cg dG rfl T.j9 (by decide +kernel) (aj (dJ cL (pv 0) aC (λ_ _=>rfl)) au)) (aj (cg dG rfl T.j9 (by decide +kernel) (aj (pv 0) au)) au))))),dD (b:=nU) (k:=1) (n:=0) rfl (λps r e=>match ps,e with|[_],e=>⟨rfl,e⟩) h λio H0 F0 hio=>?_⟩
 exact(cV (d8 (ao (dN jV (fB (aB aF.up iG (ak 0) aG))) (ao (dN jV (eX 0)) aN))))
theorem gZ:bf ["many","stacks","number"] ["many"] (aA (top 14)):=⟨rfl,rfl,rfl,by decide +kernel,rfl,by decide +kernel,by decide +kernel⟩
theorem vK(T:Txt mg)(D:bh K mg "all_stacks" (top 14) ["many"])(hcc:∀ (f:Addr) (oc:Value) (od:Option Addr) (fd:FuncData) (osl:Array (Option Value)),mg "all_stacks"=some (.ref f)->K.lookup f=some ⟨oc,od,.func fd,osl⟩->fd.code=.ref 92)(hCd:PySem.W.CodeHd base 92 90)(hBI:base.BuiltinsAt mg 90):FnAt P w K mg base "all_stacks" 5 ["many"] (spT 90 LP LQ (spO K XR0 iY)):=by
 refine D.okC gZ (λvs H Q E h=>km (qy h) λps r e=>match ps,e with|[_],_=>rfl) hcc (λf A outer s H vs Q E hr h=>?_)
 refine⟨_,(aM (bx (i:=1) gZ.nd rfl (Or.inl rfl) (oW (aj (d7 au) au)))
   (aM (fQ ZaV rfl (dF rfl T.gr (aj (pv 0) au)) (bW (i:=2) gZ.nd rfl (Or.inr rfl))
    (aQ (bx (i:=1) gZ.nd rfl (Or.inl rfl) (aO LR (pv 1) (fW ["stack","number"] [none,some 2] rfl (gQ (pv 1)) (λ_ _ _ _ _=>(cN (i:=0) (by decide +kernel) rfl rfl)) (λ_ _ _ _ _=>jl) (λ_ _ _ _ _=>(aO Kg (pvl 0) (d7 (aj (pvf 1) au)))))))))
   (aQ (bL (Di (k:=1) (N:=["stack"]) (ps:=["stack"]) (q:=LQ) (by exact⟨rfl,rfl,rfl,by decide +kernel,rfl,by decide +kernel,by decide +kernel⟩) rfl (hr.mono (by decide)) rfl T.BL (aj (pv 1) au) rfl rfl rfl rfl hCd hBI (by exact λ_ _ _ _=>rfl) (by exact λ_ _ _ _ _ _ hr=>(d7 (aj (cg HF rfl T.j9 (by decide +kernel) (aj (pv 0) au)) (aj (pv 0) au))))))))),mQ (b:=iW) (k:=1) (n:=2) rfl (λps r e=>match ps,e with|[_],e=>⟨rfl,e⟩) h λio H0 F0 hio hT=>?_⟩
 exact(aX (bC (iD (uo (ao (d8 aN) aN))) (aL 1))
   (aX (gG (gb (ao (ak 0) aN)) (aL 2)
    (bC (iD (RJ aV.up R7 (pQ 1) (jz (gh (iU (ak 1)) (aL 0) (dC 0) jn (aB aF.up QK (ak 0) (d8 (ao (ak 1) aN))))))) (aL 1)))
   (nJ (Dj (λ_ _ _=>(d8 (ao (dN jV (eX 0)) (ao (ak 0) aN)))) rfl hT (hio _) (pQ 1)))))
theorem fD:bf ["bench","by_colour","stack"] ["bench"] (aA (top 15)):=⟨rfl,rfl,rfl,by decide +kernel,rfl,by decide +kernel,by decide +kernel⟩
theorem oA(T:Txt mg)(D:bh K mg "stacks_by_colour" (top 15) ["bench"])(yH:FnAt P w K mg base "all_stacks" 5 ["many"] (spT 90 LP LQ (spO K XR0 iY)))(nA:FnAt P w K mg base "colour_of" 2 ["bench","stack"] (spM K XR0 eO)):FnAt P w K mg base "stacks_by_colour" 6 ["bench"] (spT 90 LP LQ (spD K XR0 cY)):=by
 refine D.ok fD (λvs H Q E h=>xP (qy h) λps r e=>match ps,e with|[_],_=>rfl) (λf cdv A outer s H vs Q E hr h=>?_)
 refine⟨_,(aM (bx (i:=1) fD.nd rfl (Or.inl rfl) zj)
   (aM (fQ ZaV rfl (gQ (aW yH (hr.mono (by decide)) rfl (aj (cg dG rfl T.j9 (by decide +kernel) (aj (dJ cL (pv 0) aC (λ_ _=>rfl)) au)) au))) (bW (i:=2) fD.nd rfl (Or.inl rfl))
    (aQ (nG (vY Zbk Zbj PySem.F.type_list_append gD (uI (pv 1) (aW nA (hr.mono (by decide)) rfl (aj (pv 0) (aj (pv 2) au))) (oW au) ⟨rfl,rfl,rfl,rfl⟩) (aj (pv 2) au)))))
   (aQ (bL (pv 1))))),Ag (b:=dO) (k:=1) (n:=2) rfl (λps r e=>match ps,e with|[_],e=>⟨rfl,e⟩) h λio H0 F0 hio hT=>?_⟩
 exact(aX (Fd (i:=1) trivial (JX Ez))
   (aX (gG (iU (iD (mR hT (hio _) (ao (dN jV (fB (aB aF.up iG (ak 0) aG))) aN)))) (aL 2)
    (uT (bO (ao (ak 0) (ao (ak 2) aN))) (ak 2)))
   (zH 1)))
theorem cA:bf ["picture","by_colour","row","colours","column","colour"] ["picture"] (aA (top 16)):=⟨rfl,rfl,rfl,by decide +kernel,rfl,by decide +kernel,by decide +kernel⟩
theorem pH(T:Txt mg)(D:bh K mg "cells_by_colour" (top 16) ["picture"]):FnAt P w K mg base "cells_by_colour" 1 ["picture"] (spD K XR0 cI):=by
 refine D.ok cA (λvs H Q E h=>xP h λps r e=>match ps,e with|[_],_=>rfl) (λf cdv A outer s H vs Q E hr h=>?_)
 refine⟨_,(aM (bx (i:=1) cA.nd rfl (Or.inl rfl) zj)
   (aM (fQ ZaV rfl (wY rfl T.nu (aj (pv 0) au)) (qU (n:=2) rfl (cM (bW (i:=2) cA.nd rfl (Or.inl rfl)) (cM (bW (i:=3) cA.nd rfl (Or.inl rfl)) jx)))
    (aQ (fQ ZaV rfl (wY rfl T.nu (aj (pv 3) au)) (qU (n:=2) rfl (cM (bW (i:=4) cA.nd rfl (Or.inl rfl)) (cM (bW (i:=5) cA.nd rfl (Or.inl rfl)) jx)))
     (aQ (nG (vY Zbk Zbj PySem.F.type_list_append gD (uI (pv 1) (pv 5) (oW au) ⟨rfl,rfl,rfl,rfl⟩) (aj (d7 (aj (pv 4) (aj (pv 2) au))) au)))))))
   (aQ (bL (pv 1))))),Ff (b:=eF) (k:=1) (n:=5) rfl (λps r e=>match ps,e with|[_],e=>⟨rfl,e⟩) h λio H0 F0 hio=>?_⟩
 exact(aX (Fd (i:=1) trivial (JX Ez))
   (aX (gG (xG (ao (ak 0) aN)) (lZ (cQ (aL 2) (cQ (aL 3) jA)))
    (gG (xG (ao (ak 3) aN)) (lZ (cQ (aL 4) (cQ (aL 5) jA)))
     (uT (ak 5) (d8 (ao (ak 4) (ao (ak 2) aN))))))
   (zH 1)))
theorem g8:bf ["bench","picture","stacks","cells","colour"] ["bench","picture"] (aA (top 17)):=⟨rfl,rfl,rfl,by decide +kernel,rfl,by decide +kernel,by decide +kernel⟩
theorem vL(T:Txt mg)(D:bh K mg "stacks_for" (top 17) ["bench","picture"])(pJ:FnAt P w K mg base "stacks_by_colour" 6 ["bench"] (spT 90 LP LQ (spD K XR0 cY)))(gw:FnAt P w K mg base "cells_by_colour" 1 ["picture"] (spD K XR0 cI)):FnAt P w K mg base "stacks_for" 7 ["bench","picture"] (spT 90 LP LQ (spO K XR0 jb)):=by
 refine D.ok g8 (λvs H Q E h=>km (qy h) λps r e=>match ps,e with|[_,_],_=>rfl) (λf cdv A outer s H vs Q E hr h=>?_)
 refine⟨_,(aM (bx (i:=2) g8.nd rfl (Or.inr rfl) (aW pJ (hr.mono (by decide)) rfl (aj (pv 0) au)))
   (aM (bx (i:=3) g8.nd rfl (Or.inl rfl) (aW gw (hr.mono (by decide)) rfl (aj (pv 1) au)))
   (aM (Fg 3 (fQ ZaV rfl (Fi (pv 3)) (bW (i:=4) g8.nd rfl (Or.inl rfl))
    (aQ (lF (eE (Hn hr) (pv 4) (pv 2) (by with_unfolding_all rfl))
     (aQ Iv)
     fV))))
   (aQ (bL (jQ (o8 hr rfl) rfl T.DP (by decide +kernel) (aj (fW ["colour","stacks"] [none,some 2] rfl (gQ (cg (vH rfl) rfl T.BL (by decide +kernel) (aj (pv 3) au))) (λ_ _ _ _ _=>(cN (i:=0) (by decide +kernel) rfl rfl)) (λ_ _ _ _ _=>jl) (λ_ _ _ _ _=>(d7 (aj (pvl 0) (aj (Ho hr (pvf 1) (pvl 0) (λ_ _=>rfl)) au))))) au))))))),mQ (b:=iZ) (k:=2) (n:=3) rfl (λps r e=>match ps,e with|[_,_],e=>⟨rfl,e⟩) h λio H0 F0 hio hT=>?_⟩
 exact(aX (bC (xO (Ah hT (hio _) (ao (ak 0) aN))) (aL 2))
   (aX (bC (xO (tu (ao (ak 1) aN))) (aL 3))
   (aX (Fj 3 (λ_ _=>Fo (zK 3) (aL 4)
    (lH (dM (aB aF.up JS (ak 4) (jg 2)))
     JP
     fX)))
   (nJ (xJ (xK λ_ _ _=>xM) (jz (gh (iU (iD (xJ Kl (jg 3)))) (aL 0) (dC 0) jn (d8 (ao (ak 0) (ao (sZ (jg 1) (ak 0)) aN))))))))))
theorem rN:bf ["bench","picture"] ["bench","picture"] (aA (top 18)):=⟨rfl,rfl,rfl,by decide +kernel,rfl,by decide +kernel,by decide +kernel⟩
theorem rO(T:Txt mg)(D:bh K mg "least_choices" (top 18) ["bench","picture"])(yI:FnAt P w K mg base "stacks_for" 7 ["bench","picture"] (spT 90 LP LQ (spO K XR0 jb))):FnAt P w K mg base "least_choices" 8 ["bench","picture"] (spT 90 LP LQ (spO K XR0 fM)):=by
 refine D.ok rN (λvs H Q E h=>km (qy h) λps r e=>match ps,e with|[_,_],_=>rfl) (λf cdv A outer s H vs Q E hr h=>?_)
 refine⟨_,(aQ (bL (jQ (o8 hr rfl) rfl T.DP (by decide +kernel) (aj (fW ["colour","stacks"] [none,none] rfl (zL (Aa (aW yI (hr.mono (by decide)) rfl (aj (pv 0) (aj (pv 1) au))))) (λ_ _ _ _ _=>(wZ (n:=2) rfl (cM (cN (i:=0) (by decide +kernel) rfl rfl) (cM (cN (i:=1) (by decide +kernel) rfl rfl) jx)))) (λ_ _ _ _ _=>jl) (λ_ _ _ _ _=>(d7 (aj (pvl 0) (aj (dJ Ex (pvl 1) aC (λ_ _=>rfl)) au))))) au)))),mQ (b:=fL) (k:=2) (n:=0) rfl (λps r e=>match ps,e with|[_,_],e=>⟨rfl,e⟩) h λio H0 F0 hio hT=>?_⟩
 exact(nJ (xJ (xK λ_ _ _=>xM) (jz (gh (Hw (mR hT (hio _) (ao (ak 0) (ao (ak 1) aN)))) (lZ (cQ (aL 0) (cQ (aL 1) jA))) (CG (jU (dC 0) (jU (dC 1) xH))) jn (d8 (ao (ak 0) (ao (aB aF.up iG (ak 1) aG) aN)))))))
theorem jM:bf ["picture","size"] ["picture"] (aA (top 19)):=⟨rfl,rfl,rfl,by decide +kernel,rfl,by decide +kernel,by decide +kernel⟩
theorem qM(T:Txt mg)(D:bh K mg "sets_by_colour" (top 19) ["picture"])(Ip:FnAt P w K mg base "size_of" 1 ["picture"] (spM K XR0 nW))(gw:FnAt P w K mg base "cells_by_colour" 1 ["picture"] (spD K XR0 cI))(Lb:FnAt P w K mg base "set_of" 2 ["size","cells"] (spM K XR0 qC)):FnAt P w K mg base "sets_by_colour" 3 ["picture"] (spO K XR0 fj):=by
 refine D.ok jM (λvs H Q E h=>km h λps r e=>match ps,e with|[_],_=>rfl) (λf cdv A outer s H vs Q E hr h=>?_)
 refine⟨_,(aM (bx (i:=1) jM.nd rfl (Or.inr rfl) (aW Ip (hr.mono (by decide)) rfl (aj (pv 0) au)))
   (aQ (bL (jQ (o8 hr rfl) rfl T.DP (by decide +kernel) (aj (fW ["colour","cells","size"] [none,none,some 1] rfl (zL (Aa (aW gw (hr.mono (by decide)) rfl (aj (pv 0) au)))) (λ_ _ _ _ _=>(wZ (n:=2) rfl (cM (cN (i:=0) (by decide +kernel) rfl rfl) (cM (cN (i:=1) (by decide +kernel) rfl rfl) jx)))) (λ_ _ _ _ _=>jl) (λ_ _ _ _ _=>(d7 (aj (pvl 0) (aj (aW Lb (hr.mono (by decide)) (glc rfl) (aj (pvf 2) (aj (pvl 1) au))) au))))) au))))),sY (b:=eZ) (k:=1) (n:=1) rfl (λps r e=>match ps,e with|[_],e=>⟨rfl,e⟩) h λio H0 F0 hio=>?_⟩
 exact(aX (bC (bO (ao (ak 0) aN)) (aL 1))
   (nJ (xJ (xK λ_ _ _=>xM) (jz (gh (Hv (tu (ao (ak 0) aN))) (lZ (cQ (aL 0) (cQ (aL 1) jA))) (CG (jU (dC 0) (jU (dC 1) xH))) jn (d8 (ao (ak 0) (ao (bO (ao (ak 2) (ao (ak 1) aN))) aN))))))))
theorem jN:bf ["sets","choices","number","state","colour"] ["sets","choices","number"] (aA (top 20)):=⟨rfl,rfl,rfl,by decide +kernel,rfl,by decide +kernel,by decide +kernel⟩
theorem Bw(T:Txt mg)(D:bh K mg "state_of" (top 20) ["sets","choices","number"]):FnAt P w K mg base "state_of" 1 ["sets","choices","number"] (spM K XR0 lz):=by
 refine D.ok jN (λvs H Q E h=>dq h λps r e=>match ps,e with|[_,_,_],_=>rfl) (λf cdv A outer s H vs Q E hr h=>?_)
 refine⟨_,(aM (bx (i:=3) jN.nd rfl (Or.inl rfl) aC)
   (aM (Fg 0 (fQ ZaV rfl (Fi (pv 0)) (bW (i:=4) jN.nd rfl (Or.inl rfl))
    (aQ (lF (eE (Qq hr) (pv 2) (uD hr (pv 1) (pv 4) (λ_ _=>rfl)) (by with_unfolding_all rfl))
     (aQ (bx (i:=3) jN.nd rfl (Or.inl rfl) (aO Oi (pv 3) (uD hr (pv 0) (pv 4) (λ_ _=>rfl)))))
     fV))))
   (aQ (bL (pv 3))))),dD (b:=lw) (k:=3) (n:=2) rfl (λps r e=>match ps,e with|[_,_,_],e=>⟨rfl,e⟩) h λio H0 F0 hio=>?_⟩
 exact(aX (bC aG (aL 3))
   (aX (Fj 0 (λ_ _=>Fo (zK 0) (aL 4)
    (lH (dM (aB aH.up Ti (eX 2) (fB (sZ (jg 1) (ak 4)))))
     (bC (aB aF.up RZ (ak 3) (sZ (jg 0) (ak 4))) (aL 3))
     fX)))
   (cV (ak 3))))
theorem qN:bf ["bench","picture","choices","sets"] ["bench","picture","choices"] (aA (top 21)):=⟨rfl,rfl,rfl,by decide +kernel,rfl,by decide +kernel,by decide +kernel⟩
theorem yE(T:Txt mg)(D:bh K mg "states_by" (top 21) ["bench","picture","choices"])(rP:FnAt P w K mg base "sets_by_colour" 3 ["picture"] (spO K XR0 fj))(DQ:FnAt P w K mg base "state_of" 1 ["sets","choices","number"] (spM K XR0 lz)):FnAt P w K mg base "states_by" 4 ["bench","picture","choices"] (spO K XR0 jG):=by
 refine D.ok qN (λvs H Q E h=>km h λps r e=>match ps,e with|[_,_,_],_=>rfl) (λf cdv A outer s H vs Q E hr h=>?_)
 refine⟨_,(aM (bx (i:=3) qN.nd rfl (Or.inr rfl) (aW rP (hr.mono (by decide)) rfl (aj (pv 1) au)))
   (aQ (bL (fW ["number","sets","choices"] [none,some 3,some 2] rfl (dF rfl T.gr (aj (cg dG rfl T.j9 (by decide +kernel) (aj (dJ cL (pv 0) aC (λ_ _=>rfl)) au)) au)) (λ_ _ _ _ _=>(cN (i:=0) (by decide +kernel) rfl rfl)) (λ_ _ _ _ _=>jl) (λ_ _ _ _ _=>(aW DQ (hr.mono (by decide)) (glc rfl) (aj (pvf 1) (aj (pvf 2) (aj (pvl 0) au))))))))),sY (b:=jF) (k:=3) (n:=1) rfl (λps r e=>match ps,e with|[_,_,_],e=>⟨rfl,e⟩) h λio H0 F0 hio=>?_⟩
 exact(aX (bC (iD (sX (ao (ak 1) aN))) (aL 3))
   (nJ (gh (gb (ao (dN jV (fB (aB aF.up iG (ak 0) aG))) aN)) (aL 0) (dC 0) jn (bO (ao (ak 1) (ao (ak 2) (ao (ak 0) aN)))))))
theorem Bx:bf ["size","states","cell"] ["size","states","cell"] (aA (top 23)):=⟨rfl,rfl,rfl,by decide +kernel,rfl,by decide +kernel,by decide +kernel⟩
theorem By(T:Txt mg)(D:bh K mg "stack_at" (top 23) ["size","states","cell"])(DR:FnAt P w K mg base "has_cell" 2 ["size","some","cell"] (spM K XR0 lu)):FnAt P w K mg base "stack_at" 3 ["size","states","cell"] (spM K XR0 lB):=by
 refine D.ok Bx (λvs H Q E h=>dq h λps r e=>match ps,e with|[_,_,_],_=>rfl) (λf cdv A outer s H vs Q E hr h=>?_)
 refine⟨_,(aQ (bL (jQ oF rfl T.Gw (by decide +kernel) (aj (fW ["number","state","size","cell"] [none,none,some 0,some 2] rfl (wY rfl T.nu (aj (pv 1) au)) (λ_ _ _ _ _=>(wZ (n:=2) rfl (cM (cN (i:=0) (by decide +kernel) rfl rfl) (cM (cN (i:=1) (by decide +kernel) rfl rfl) jx)))) (λ_ _ _ _ _=>(Jf (Pz (aW DR (hr.mono (by decide)) (glc rfl) (aj (pvf 2) (aj (pvl 1) (aj (pvf 3) au))))))) (λ_ _ _ _ _=>(pvl 0))) au)))),dD (b:=lA) (k:=3) (n:=0) rfl (λps r e=>match ps,e with|[_,_,_],e=>⟨rfl,e⟩) h λio H0 F0 hio=>?_⟩
 exact(cV (dN O1 (jz (gh (xG (ao (ak 1) aN)) (lZ (cQ (aL 0) (cQ (aL 1) jA))) (CG (jU (dC 0) (jU (dC 1) xH))) (Ql (bO (ao (ak 2) (ao (ak 1) (ao (ak 3) aN))))) (ak 0)))))
theorem vq:bf ["bench","size","states","row"] ["bench","size","states","row"] (aA (top 24)):=⟨rfl,rfl,rfl,by decide +kernel,rfl,by decide +kernel,by decide +kernel⟩
theorem vy(T:Txt mg)(D:bh K mg "pressed_row" (top 24) ["bench","size","states","row"])(nA:FnAt P w K mg base "colour_of" 2 ["bench","stack"] (spM K XR0 eO))(DW:FnAt P w K mg base "stack_at" 3 ["size","states","cell"] (spM K XR0 lB)):FnAt P w K mg base "pressed_row" 4 ["bench","size","states","row"] (spO K XR0 gW):=by
 refine D.ok vq (λvs H Q E h=>km h λps r e=>match ps,e with|[_,_,_,_],_=>rfl) (λf cdv A outer s H vs Q E hr h=>?_)
 refine⟨_,(aQ (bL (fW ["column","bench","size","states","row"] [none,some 0,some 1,some 2,some 3] rfl (dF rfl T.gr (aj (dJ cL (pv 1) aC (λ_ _=>rfl)) au)) (λ_ _ _ _ _=>(cN (i:=0) (by decide +kernel) rfl rfl)) (λ_ _ _ _ _=>jl) (λ_ _ _ _ _=>(aW nA (hr.mono (by decide)) (glc rfl) (aj (pvf 1) (aj (aW DW (hr.mono (by decide)) (glc rfl) (aj (pvf 2) (aj (pvf 3) (aj (d7 (aj (pvl 0) (aj (pvf 4) au))) au)))) au))))))),sY (b:=gV) (k:=4) (n:=0) rfl (λps r e=>match ps,e with|[_,_,_,_],e=>⟨rfl,e⟩) h λio H0 F0 hio=>?_⟩
 exact(nJ (gh (gb (ao (aB aF.up iG (ak 1) aG) aN)) (aL 0) (dC 0) jn (bO (ao (ak 1) (ao (bO (ao (ak 2) (ao (ak 3) (ao (d8 (ao (ak 0) (ao (ak 4) aN))) aN)))) aN)))))
theorem Dw:bf ["bench","size","states"] ["bench","size","states"] (aA (top 25)):=⟨rfl,rfl,rfl,by decide +kernel,rfl,by decide +kernel,by decide +kernel⟩
theorem Dy(T:Txt mg)(D:bh K mg "pressed" (top 25) ["bench","size","states"])(vM:FnAt P w K mg base "pressed_row" 4 ["bench","size","states","row"] (spO K XR0 gW)):FnAt P w K mg base "pressed" 5 ["bench","size","states"] (spD K XR0 gM):=by
 refine D.ok Dw (λvs H Q E h=>xP h λps r e=>match ps,e with|[_,_,_],_=>rfl) (λf cdv A outer s H vs Q E hr h=>?_)
 refine⟨_,(aQ (bL (fW ["row","bench","size","states"] [none,some 0,some 1,some 2] rfl (dF rfl T.gr (aj (dJ cL (pv 1) aC (λ_ _=>rfl)) au)) (λ_ _ _ _ _=>(cN (i:=0) (by decide +kernel) rfl rfl)) (λ_ _ _ _ _=>jl) (λ_ _ _ _ _=>(aW vM (hr.mono (by decide)) (glc rfl) (aj (pvf 1) (aj (pvf 2) (aj (pvf 3) (aj (pvl 0) au))))))))),Ff (b:=nY) (k:=3) (n:=0) rfl (λps r e=>match ps,e with|[_,_,_],e=>⟨rfl,e⟩) h λio H0 F0 hio=>?_⟩
 exact(Ms (Mt (gb (ao (aB aF.up iG (ak 1) aG) aN)) (aL 0) (dC 0) jn (Sg (sX (ao (ak 1) (ao (ak 2) (ao (ak 3) (ao (ak 0) aN))))))))
theorem yF:bf ["_law_script","_law_k"] ["_law_script","_law_k"] (aA (top 27)):=⟨rfl,rfl,rfl,by decide +kernel,rfl,by decide +kernel,by decide +kernel⟩
theorem yG(T:Txt mg)(D:bh K mg "_law_cell_at" (top 27) ["_law_script","_law_k"]):FnAt P w K mg base "_law_cell_at" 1 ["_law_script","_law_k"] (spM K XR0 bF):=by
 refine D.ok yF (λvs H Q E h=>dq h λps r e=>match ps,e with|[_,_],_=>rfl) (λf cdv A outer s H vs Q E hr h=>?_)
 refine⟨_,(aM (lF (eE Cz (pv 1) (cg dG rfl T.j9 (by decide +kernel) (aj (pv 0) au)) (gC _))
    (aQ (bL (dJ cL (pv 0) (pv 1) (λ_ _=>rfl))))
    fV)
   (aQ (bL aC))),dD (b:=jr) (k:=2) (n:=0) rfl (λps r e=>match ps,e with|[_,_],e=>⟨rfl,e⟩) h λio H0 F0 hio=>?_⟩
 exact(aX (lH (dM (aB aF.up Qv (ak 1) (dN jV (eX 0))))
    (cV (aB aF.up iG (ak 0) (ak 1)))
    fX)
   (cV aG))
theorem Dz:bf ["_law_cell","_law_k"] ["_law_cell","_law_k"] (aA (top 28)):=⟨rfl,rfl,rfl,by decide +kernel,rfl,by decide +kernel,by decide +kernel⟩
theorem DG(T:Txt mg)(D:bh K mg "_law_mixed" (top 28) ["_law_cell","_law_k"]):FnAt P w K mg base "_law_mixed" 1 ["_law_cell","_law_k"] (spM K XR0 fu):=by
 refine D.ok Dz (λvs H Q E h=>dq h λps r e=>match ps,e with|[_,_],_=>rfl) (λf cdv A outer s H vs Q E hr h=>?_)
 refine⟨_,(aQ (bL (aO cJ (aO qg (aO bH (aO bH (aO cJ (pv 0) (aO oV aC aC)) (aO qg (pv 1) (pv 1))) aC) aC) (aO bH (aO oV aC aC) aC)))),dD (b:=jc) (k:=2) (n:=0) rfl (λps r e=>match ps,e with|[_,_],e=>⟨rfl,e⟩) h λio H0 F0 hio=>?_⟩
 exact(cV (aB aF.up dU (aB aF.up uH (aB aF.up dz (aB aF.up dz (aB aF.up dU (ak 0) (aB aF.up uv aG aG)) (aB aF.up uH (ak 1) (ak 1))) aG) aG) (aB aF.up dz (aB aF.up uv aG aG) aG)))
theorem rY:bf ["_law_script","_law_k","_law_at","_law_cell"] ["_law_script","_law_k","_law_at"] (aA (top 29)):=⟨rfl,rfl,rfl,by decide +kernel,rfl,by decide +kernel,by decide +kernel⟩
theorem BJ(T:Txt mg)(D:bh K mg "_law_number" (top 29) ["_law_script","_law_k","_law_at"])(cZ:FnAt P w K mg base "_law_cell_at" 1 ["_law_script","_law_k"] (spM K XR0 bF))(qO:FnAt P w K mg base "_law_mixed" 1 ["_law_cell","_law_k"] (spM K XR0 fu)):FnAt P w K mg base "_law_number" 2 ["_law_script","_law_k","_law_at"] (spM K XR0 bV):=by
 refine D.ok rY (λvs H Q E h=>dq h λps r e=>match ps,e with|[_,_,_],_=>rfl) (λf cdv A outer s H vs Q E hr h=>?_)
 refine⟨_,(aM (bx (i:=3) rY.nd rfl (Or.inl rfl) (cg yQ rfl T.Ph (by decide +kernel) (aj (aW cZ (hr.mono (by decide)) rfl (aj (pv 0) (aj (pv 1) au))) au)))
   (aM (lF (eE Rr (pv 3) (aO oV aC aC) (gC _))
    (aQ (bL (pv 3)))
    fV)
   (aQ (bL (aW qO (hr.mono (by decide)) rfl (aj (aW qO (hr.mono (by decide)) rfl (aj (pv 3) (aj (pv 2) au))) (aj (aO bH (pv 2) aC) au))))))),dD (b:=dZ) (k:=3) (n:=1) rfl (λps r e=>match ps,e with|[_,_,_],e=>⟨rfl,e⟩) h λio H0 F0 hio=>?_⟩
 exact(aX (bC (dN OJ (bO (ao (ak 0) (ao (ak 1) aN)))) (aL 3))
   (aX (lH (dM (aB aF.up Tf (ak 3) (aB aF.up uv aG aG)))
    (cV (ak 3))
    fX)
   (cV (bO (ao (bO (ao (ak 3) (ao (ak 2) aN))) (ao (aB aF.up dz (ak 2) aG) aN))))))
theorem Ij:bf ["_law_place","_law_k"] ["_law_place","_law_k"] (aA (top 30)):=⟨rfl,rfl,rfl,by decide +kernel,rfl,by decide +kernel,by decide +kernel⟩
theorem Ik(T:Txt mg)(D:bh K mg "_law_word" (top 30) ["_law_place","_law_k"]):FnAt P w K mg base "_law_word" 1 ["_law_place","_law_k"] (spM K XR0 eQ):=by
 refine D.ok Ij (λvs H Q E h=>dq h λps r e=>match ps,e with|[_,_],_=>rfl) (λf cdv A outer s H vs Q E hr h=>?_)
 refine⟨_,(aQ (bL (aO bH (aO bH (yU Jh tY Ec (Ed (pv 0))) (dJ cL tY (aO cJ (pv 1) aC) (λ_ _=>rfl))) (yU Jh tY (Ed (pv 0)) Ec)))),dD (b:=jH) (k:=2) (n:=0) rfl (λps r e=>match ps,e with|[_,_],e=>⟨rfl,e⟩) h λio H0 F0 hio=>?_⟩
 exact(cV (aB aF.up dz (aB aF.up dz (JG q9 Es (Et (ak 0))) (aB aF.up iG q9 (aB aF.up dU (ak 1) aG))) (JG q9 (Et (ak 0)) Es)))
theorem gP:bf ["_law_number_here","_law_colours","_law_pairs","_law_rest","_law_k","_law_under"] ["_law_number_here","_law_colours"] (aA (top 31)):=⟨rfl,rfl,rfl,by decide +kernel,rfl,by decide +kernel,by decide +kernel⟩
theorem DK(T:Txt mg)(D:bh K mg "_law_glaze" (top 31) ["_law_number_here","_law_colours"]):FnAt P w K mg base "_law_glaze" 1 ["_law_number_here","_law_colours"] (spM K XR0 gm):=by
 refine D.ok gP (λvs H Q E h=>dq h λps r e=>match ps,e with|[_,_],_=>rfl) (λf cdv A outer s H vs Q E hr h=>?_)
 refine⟨_,(aM (bx (i:=2) gP.nd rfl (Or.inl rfl) (oW au))
   (aM (bx (i:=3) gP.nd rfl (Or.inl rfl) (aO di (pv 0) aC))
   (aM (fQ ZaV rfl (dF rfl T.gr (aj (aO bH aC (aO cJ (pv 0) aC)) au)) (bW (i:=4) gP.nd rfl (Or.inl rfl))
    (aM (bx (i:=5) gP.nd rfl (Or.inl rfl) (dJ cL (pv 1) (aO cJ (pv 3) (cg dG rfl T.j9 (by decide +kernel) (aj (pv 1) au))) (λ_ _=>rfl)))
    (aM (lF (eE (Hi hr) (pv 5) (fW ["_law_pair"] [none] rfl (gQ (pv 2)) (λ_ _ _ _ _=>(cN (i:=0) (by decide +kernel) rfl rfl)) (λ_ _ _ _ _=>jl) (λ_ _ _ _ _=>(dJ Ex (pvl 0) aC (λ_ _=>rfl)))) (by with_unfolding_all rfl))
     (aQ (nG (vY Zbk Zbj PySem.F.type_list_append gD (pv 2) (aj (d7 (aj (pv 5) (aj (dJ cL (pv 1) (aO cJ (aO di (pv 3) aC) (cg dG rfl T.j9 (by decide +kernel) (aj (pv 1) au))) (λ_ _=>rfl)) au))) au))))
     fV)
    (aQ (bx (i:=3) gP.nd rfl (Or.inl rfl) (aO di (pv 3) aC))))))
   (aQ (bL (jQ oF rfl T.Gw (by decide +kernel) (aj (pv 2) au))))))),dD (b:=jd) (k:=2) (n:=4) rfl (λps r e=>match ps,e with|[_,_],e=>⟨rfl,e⟩) h λio H0 F0 hio=>?_⟩
 exact(aX (xn (i:=2) trivial (uo aN))
   (aX (bC (aB aF.up ig (ak 0) aG) (aL 3))
   (aX (gG (gb (ao (aB aF.up dz aG (aB aF.up dU (ak 0) aG)) aN)) (aL 4)
    (aX (bC (aB aF.up iG (ak 1) (aB aF.up dU (ak 3) (dN jV (eX 1)))) (aL 5))
    (aX (lH (dM (aB aH.up Mi (eX 5) (fB (iD (zB (JM (pQ 2)) (aL 0) (dC 0) jn (aB aF.up iG (ak 0) aG))))))
     (xr (d8 (ao (ak 5) (ao (aB aF.up iG (ak 1) (aB aF.up dU (aB aF.up ig (ak 3) aG) (dN jV (eX 1)))) aN))))
     fX)
    (bC (aB aF.up ig (ak 3) aG) (aL 3)))))
   (cV (dN O1 (pQ 2))))))
theorem eV:bf ["_law_script","_law_head","_law_place","_law_colours","_law_inks","_law_k","_law_number_here","_law_name"] ["_law_script"] (aA (top 32)):=⟨rfl,rfl,rfl,by decide +kernel,rfl,by decide +kernel,by decide +kernel⟩
theorem DN(T:Txt mg)(D:bh K mg "_law_bench" (top 32) ["_law_script"])(ie:FnAt P w K mg base "_law_number" 2 ["_law_script","_law_k","_law_at"] (spM K XR0 bV))(rZ:FnAt P w K mg base "_law_word" 1 ["_law_place","_law_k"] (spM K XR0 eQ))(cZ:FnAt P w K mg base "_law_cell_at" 1 ["_law_script","_law_k"] (spM K XR0 bF))(yJ:FnAt P w K mg base "_law_glaze" 1 ["_law_number_here","_law_colours"] (spM K XR0 gm)):FnAt P w K mg base "_law_bench" 3 ["_law_script"] (spM K XR0 gn):=by
 refine D.ok eV (λvs H Q E h=>dq h λps r e=>match ps,e with|[_],_=>rfl) (λf cdv A outer s H vs Q E hr h=>?_)
 refine⟨_,(aM (bx (i:=1) eV.nd rfl (Or.inr rfl) (aO di (aW ie (hr.mono (by decide)) rfl (aj (pv 0) (aj aC (aj aC au)))) aC))
   (aM (bx (i:=2) eV.nd rfl (Or.inr rfl) (aO cJ (pv 1) aC))
   (aM (Eh (i:=3) ["_law_k","_law_place","_law_head"] [none,some 2,some 1] rfl eV.nd rfl rfl (dF rfl T.gr (aj (aO bH aC (aO cJ (aO di (pv 1) aC) aC)) au)) (λ_ _ _ _ _=>(cN (i:=0) (by decide +kernel) rfl rfl)) (λ_ _ _ _ _=>jl) (λ_ _ _ _ _=>(aW rZ (hr.mono (by decide)) (glc rfl) (aj (pvf 1) (aj (aO JN (aO di (pvf 2) aC) (aO pX aC (pvl 0))) au)))))
   (aM (bx (i:=4) eV.nd rfl (Or.inl rfl) (oW au))
   (aM (fQ ZaV rfl (dF rfl T.gr (aj (aO bH aC (aO cJ (aW cZ (hr.mono (by decide)) rfl (aj (pv 0) (aj aC au))) aC)) au)) (bW (i:=5) eV.nd rfl (Or.inl rfl))
    (aM (bx (i:=6) eV.nd rfl (Or.inl rfl) (aW ie (hr.mono (by decide)) rfl (aj (pv 0) (aj (aO bH aC (pv 5)) (aj (aO bH aC (pv 5)) au)))))
    (aM (bx (i:=7) eV.nd rfl (Or.inl rfl) (aW rZ (hr.mono (by decide)) rfl (aj (aO cJ (aO bH (pv 2) aC) aC) (aj (aO bH (aO di (pv 1) aC) (aO pX aC (pv 5))) au))))
    (aQ (lF (eE Cz (aO cJ (pv 6) aC) aC (gC _))
     (aQ (nG (vY Zbk Zbj PySem.F.type_list_append gD (pv 4) (aj (d7 (aj tY (aj (pv 7) (aj (dJ cL (pv 3) (aO cJ (aO di (pv 6) aC) (cg dG rfl T.j9 (by decide +kernel) (aj (pv 3) au))) (λ_ _=>rfl)) au)))) au))))
     (aQ (nG (vY Zbk Zbj PySem.F.type_list_append gD (pv 4) (aj (d7 (aj tY (aj (pv 7) (aj (aW yJ (hr.mono (by decide)) rfl (aj (aO di (pv 6) aC) (aj (pv 3) au))) au)))) au)))))))))
   (aQ (bL (d7 (aj (d7 (aj (dJ cL (pv 3) (aO cJ (aO di (pv 1) aC) (cg dG rfl T.j9 (by decide +kernel) (aj (pv 3) au))) (λ_ _=>rfl)) (aj (pv 4) au))) (aj (pv 3) au)))))))))),dD (b:=je) (k:=1) (n:=7) rfl (λps r e=>match ps,e with|[_],e=>⟨rfl,e⟩) h λio H0 F0 hio=>?_⟩
 exact(aX (bC (aB aF.up ig (bO (ao (ak 0) (ao aG (ao aG aN)))) aG) (aL 1))
   (aX (bC (aB aF.up dU (ak 1) aG) (aL 2))
   (aX (bC (iD (gh (gb (ao (aB aF.up dz aG (aB aF.up dU (aB aF.up ig (ak 1) aG) aG)) aN)) (aL 0) (dC 0) jn (bO (ao (ak 1) (ao (aB aF.up dz (aB aF.up ig (ak 2) aG) (aB aF.up zA aG (ak 0))) aN))))) (aL 3))
   (aX (xn (i:=4) trivial (uo aN))
   (aX (gG (gb (ao (aB aF.up dz aG (aB aF.up dU (bO (ao (ak 0) (ao aG aN))) aG)) aN)) (aL 5)
    (aX (bC (bO (ao (ak 0) (ao (aB aF.up dz aG (ak 5)) (ao (aB aF.up dz aG (ak 5)) aN)))) (aL 6))
    (aX (bC (bO (ao (aB aF.up dU (aB aF.up dz (ak 2) aG) aG) (ao (aB aF.up dz (aB aF.up ig (ak 1) aG) (aB aF.up zA aG (ak 5))) aN))) (aL 7))
    (lH (dM (aB aF.up Qv (aB aF.up dU (ak 6) aG) aG))
     (xr (d8 (ao q9 (ao (ak 7) (ao (aB aF.up iG (ak 3) (aB aF.up dU (aB aF.up ig (ak 6) aG) (dN jV (eX 3)))) aN)))))
     (xr (d8 (ao q9 (ao (ak 7) (ao (bO (ao (aB aF.up ig (ak 6) aG) (ao (ak 3) aN))) aN)))))))))
   (Qm 4 hio (cV (d8 (ao (d8 (ao (aB aF.up iG (ak 3) (aB aF.up dU (aB aF.up ig (ak 1) aG) (dN jV (eX 3)))) (ao (ak 4) aN))) (ao (ak 3) aN))))))))))
theorem Il:bf ["_law_cell"] ["_law_cell"] (aA (top 36)):=⟨rfl,rfl,rfl,by decide +kernel,rfl,by decide +kernel,by decide +kernel⟩
theorem Im(T:Txt mg)(D:bh K mg "_law_size" (top 36) ["_law_cell"]):FnAt P w K mg base "_law_size" 1 ["_law_cell"] (spM K XR0 iz):=by
 refine D.ok Il (λvs H Q E h=>dq h λps r e=>match ps,e with|[_],_=>rfl) (λf cdv A outer s H vs Q E hr h=>?_)
 refine⟨_,(aM (lF (eE (uq hr) (aO cJ (pv 0) aC) aC (gC _))
    (aQ (bL (d7 (aj (aO bH aC (aO cJ (aO di (pv 0) aC) aC)) (aj (aO bH aC (aO cJ (aO di (pv 0) aC) aC)) au)))))
    fV)
   (aQ (bL (d7 (aj (aO bH aC (aO cJ (aO di (pv 0) aC) aC)) (aj (aO bH aC (aO cJ (aO di (pv 0) aC) aC)) au)))))),dD (b:=jJ) (k:=1) (n:=0) rfl (λps r e=>match ps,e with|[_],e=>⟨rfl,e⟩) h λio H0 F0 hio=>?_⟩
 exact(aX (lH (dM (aB aH.up JC (fB (aB aF.up dU (ak 0) aG)) (fB aG)))
    (cV (d8 (ao (aB aF.up dz aG (aB aF.up dU (aB aF.up ig (ak 0) aG) aG)) (ao (aB aF.up dz aG (aB aF.up dU (aB aF.up ig (ak 0) aG) aG)) aN))))
    fX)
   (cV (d8 (ao (aB aF.up dz aG (aB aF.up dU (aB aF.up ig (ak 0) aG) aG)) (ao (aB aF.up dz aG (aB aF.up dU (aB aF.up ig (ak 0) aG) aG)) aN)))))
theorem cX:bf ["_law_script","_law_many_here","_law_cells","_law_states_here","_law_k","_law_number_here","_law_state","_law_j"] ["_law_script","_law_many_here","_law_cells"] (aA (top 37)):=⟨rfl,rfl,rfl,by decide +kernel,rfl,by decide +kernel,by decide +kernel⟩
theorem BK(T:Txt mg)(D:bh K mg "_law_states" (top 37) ["_law_script","_law_many_here","_law_cells"])(ie:FnAt P w K mg base "_law_number" 2 ["_law_script","_law_k","_law_at"] (spM K XR0 bV))(cZ:FnAt P w K mg base "_law_cell_at" 1 ["_law_script","_law_k"] (spM K XR0 bF)):FnAt P w K mg base "_law_states" 3 ["_law_script","_law_many_here","_law_cells"] (spO K XR0 fJ):=by
 refine D.ok cX (λvs H Q E h=>km h λps r e=>match ps,e with|[_,_,_],_=>rfl) (λf cdv A outer s H vs Q E hr h=>?_)
 refine⟨_,(aM (bx (i:=3) cX.nd rfl (Or.inl rfl) (oW au))
   (aM (fQ ZaV rfl (dF rfl T.gr (aj (pv 1) au)) (bW (i:=4) cX.nd rfl (Or.inl rfl))
    (aM (bx (i:=5) cX.nd rfl (Or.inl rfl) (aW ie (hr.mono (by decide)) rfl (aj (pv 0) (aj (aO bH aC (pv 4)) (aj (aO bH aC (pv 4)) au)))))
    (aM (bx (i:=6) cX.nd rfl (Or.inl rfl) (aO cJ (pv 5) (aO wQ aC (pv 2))))
    (aM (lF (eE Cz (cg yQ rfl T.Ph (by decide +kernel) (aj (aW cZ (hr.mono (by decide)) rfl (aj (pv 0) (aj (aO bH aC (pv 4)) au))) au)) (aO oV aC aC) (gC _))
     (aM (bx (i:=6) cX.nd rfl (Or.inl rfl) aC)
     (aM (fQ ZaV rfl (dF rfl T.gr (aj (aO bH aC (aO di (pv 2) aC)) au)) (bW (i:=7) cX.nd rfl (Or.inl rfl))
      (aQ (bx (i:=6) cX.nd rfl (Or.inl rfl) (aO bH (aO qg (pv 6) (aO oV aC aC)) (aO cJ (aO qg (pv 5) (aO bH (aO qg (pv 7) (pv 7)) aC)) (aO bH (aO oV aC aC) aC))))))
     (aM (bx (i:=6) cX.nd rfl (Or.inl rfl) (aO cJ (pv 6) (aO wQ aC (pv 2))))
     (aQ (bx (i:=6) cX.nd rfl (Or.inl rfl) (dJ cL (oW (aj (pv 6) (aj aC (aj (aO PP (aO wQ aC (pv 2)) aC) (aj (pv 6) (aj (pv 6) au)))))) (aO cJ (aO di (pv 5) aC) aC) (λ_ _=>rfl)))))))
     fV)
    (aQ (nG (vY Zbk Zbj PySem.F.type_list_append gD (pv 3) (aj (pv 6) au))))))))
   (aQ (bL (pv 3))))),sY (b:=gY) (k:=3) (n:=5) rfl (λps r e=>match ps,e with|[_,_,_],e=>⟨rfl,e⟩) h λio H0 F0 hio=>?_⟩
 exact(aX (xn (i:=3) trivial (uo aN))
   (aX (gG (gb (ao (ak 1) aN)) (aL 4)
    (aX (bC (bO (ao (ak 0) (ao (aB aF.up dz aG (ak 4)) (ao (aB aF.up dz aG (ak 4)) aN)))) (aL 5))
    (aX (bC (aB aF.up dU (ak 5) (aB aF.up Ep aG (ak 2))) (aL 6))
    (aX (lH (dM (aB aF.up Qv (dN OJ (bO (ao (ak 0) (ao (aB aF.up dz aG (ak 4)) aN)))) (aB aF.up uv aG aG)))
     (aX (bC aG (aL 6))
     (aX (gG (gb (ao (aB aF.up dz aG (aB aF.up ig (ak 2) aG)) aN)) (aL 7)
      (bC (aB aF.up dz (aB aF.up uH (ak 6) (aB aF.up uv aG aG)) (aB aF.up dU (aB aF.up uH (ak 5) (aB aF.up dz (aB aF.up uH (ak 7) (ak 7)) aG)) (aB aF.up dz (aB aF.up uv aG aG) aG))) (aL 6)))
     (aX (bC (aB aF.up dU (ak 6) (aB aF.up Ep aG (ak 2))) (aL 6))
     (bC (aB aV.up R5 (jz (uo (ao (ak 6) (ao aG (ao (aB aF.up RW (aB aF.up Ep aG (ak 2)) aG) (ao (ak 6) (ao (ak 6) aN))))))) (aB aF.up dU (aB aF.up ig (ak 5) aG) aG)) (aL 6)))))
     fX)
    (xr (ak 6))))))
   (Jp 3 hio)))
theorem oh:bf ["_law_some","_law_many_here"] ["_law_some"] (aA (top 38)):=⟨rfl,rfl,rfl,by decide +kernel,rfl,by decide +kernel,by decide +kernel⟩
theorem Io(T:Txt mg)(D:bh K mg "_law_many" (top 38) ["_law_some"]):FnAt P w K mg base "_law_many" 1 ["_law_some"] (spM K XR0 eU):=by
 refine D.ok oh (λvs H Q E h=>dq h λps r e=>match ps,e with|[_],_=>rfl) (λf cdv A outer s H vs Q E hr h=>?_)
 refine⟨_,(aM (bx (i:=1) oh.nd rfl (Or.inl rfl) aC)
   (aM (IK ZaV (eE Oj (pv 0) aC (gC _))
    (aM (bx (i:=1) oh.nd rfl (Or.inl rfl) (aO bH (pv 1) (aO cJ (pv 0) aC)))
    (aQ (bx (i:=0) oh.nd rfl (Or.inl rfl) (aO di (pv 0) aC)))))
   (aQ (bL (pv 1))))),dD (b:=jK) (k:=1) (n:=1) rfl (λps r e=>match ps,e with|[_],e=>⟨rfl,e⟩) h λio H0 F0 hio=>?_⟩
 exact(aX (bC aG (aL 1))
   (aX (Jq 1000 (dM (aB aF.up R4 (ak 0) aG))
    (aX (bC (aB aF.up dz (ak 1) (aB aF.up dU (ak 0) aG)) (aL 1))
    (bC (aB aF.up ig (ak 0) aG) (aL 0))))
   (cV (ak 1))))
theorem gq:bf ["_law_script","_law_bench_here","_law_colours","_law_wide","_law_high","_law_states_here","_law_picture","_law_fewest","_law_again","_law_row","_law_column","_law_at","_law_stack","_law_fewer"] ["_law_script"] (aA (top 39)):=⟨rfl,rfl,rfl,by decide +kernel,rfl,by decide +kernel,by decide +kernel⟩
theorem Rf(T:Txt mg){f:Addr}{fd:FuncData}(F:Fun K "law" "law" (top 39) f fd)(yK:FnAt P w K mg base "_law_bench" 3 ["_law_script"] (spM K XR0 gn))(BP:FnAt P w K mg base "_law_size" 1 ["_law_cell"] (spM K XR0 iz))(cZ:FnAt P w K mg base "_law_cell_at" 1 ["_law_script","_law_k"] (spM K XR0 bF))(vN:FnAt P w K mg base "_law_states" 3 ["_law_script","_law_many_here","_law_cells"] (spO K XR0 fJ))(wO:FnAt P w K mg base "pressed" 5 ["bench","size","states"] (spD K XR0 gM))(sU:FnAt P w K mg base "least_choices" 8 ["bench","picture"] (spT 90 LP LQ (spO K XR0 fM)))(BR:FnAt P w K mg base "states_by" 4 ["bench","picture","choices"] (spO K XR0 jG))(sr:FnAt P w K mg base "_law_many" 1 ["_law_some"] (spM K XR0 eU)):vA P w K mg base CX0 9 f fd ["_law_script"] (spT 90 LP LQ (spM K XR0 wM)):=by
 refine F.ok gq (λvs H Q E h=>dq (qy h) λps r e=>match ps,e with|[_],_=>rfl) (λcdv A outer s H vs Q E hr h=>?_)
 refine⟨_,(aM (Iw (aW yK (hr.mono (by decide)) rfl (aj (pv 0) au)) (qU (n:=2) rfl (cM (bW (i:=1) gq.nd rfl (Or.inl rfl)) (cM (bW (i:=2) gq.nd rfl (Or.inl rfl)) jx))))
   (aM (Iw (aW BP (hr.mono (by decide)) rfl (aj (aO cJ (aW cZ (hr.mono (by decide)) rfl (aj (pv 0) (aj aC au))) (aO oV aC aC)) au)) (qU (n:=2) rfl (cM (bW (i:=3) gq.nd rfl (Or.inl rfl)) (cM (bW (i:=4) gq.nd rfl (Or.inl rfl)) jx))))
   (aM (bx (i:=5) gq.nd rfl (Or.inl rfl) (aW vN (hr.mono (by decide)) rfl (aj (pv 0) (aj (cg dG rfl T.j9 (by decide +kernel) (aj (dJ cL (pv 1) aC (λ_ _=>rfl)) au)) (aj (aO pX (pv 3) (pv 4)) au)))))
   (aM (bx (i:=6) gq.nd rfl (Or.inl rfl) (aW wO (hr.mono (by decide)) rfl (aj (pv 1) (aj (d7 (aj (pv 3) (aj (pv 4) au))) (aj (pv 5) au)))))
   (aM (bx (i:=7) gq.nd rfl (Or.inl rfl) (aW sU (hr.mono (by decide)) rfl (aj (pv 1) (aj (pv 6) au))))
   (aM (bx (i:=8) gq.nd rfl (Or.inl rfl) (aW BR (hr.mono (by decide)) rfl (aj (pv 1) (aj (pv 6) (aj (pv 7) au)))))
   (aM (lF (eE (Qo hr) (aW wO (hr.mono (by decide)) rfl (aj (pv 1) (aj (d7 (aj (pv 3) (aj (pv 4) au))) (aj (pv 8) au)))) (pv 6) (gC _))
    (aQ (bL Od))
    fV)
   (aM (fQ ZaV rfl (dF rfl T.gr (aj (pv 4) au)) (bW (i:=9) gq.nd rfl (Or.inl rfl))
    (aQ (fQ ZaV rfl (dF rfl T.gr (aj (pv 3) au)) (bW (i:=10) gq.nd rfl (Or.inl rfl))
     (aM (bx (i:=11) gq.nd rfl (Or.inr rfl) (aO bH (aO pX (pv 9) (pv 3)) (pv 10)))
     (aM (Eh (i:=12) ["_law_state","_law_at"] [none,some 11] rfl gq.nd rfl rfl (gQ (pv 5)) (λ_ _ _ _ _=>(cN (i:=0) (by decide +kernel) rfl rfl)) (λ_ _ _ _ _=>(Jf (eE (Mp hr) (aO cJ (aO Ja (pvl 0) (pvf 1)) aC) aC (gC _)))) (λ_ _ _ _ _=>(pvl 0)))
     (aQ (lF (eE Oj (cg dG rfl T.j9 (by decide +kernel) (aj (uD hr (pv 7) (dJ cL (dJ cL (pv 6) (pv 9) (λ_ _=>rfl)) (pv 10) (λ_ _=>rfl)) (λ_ _=>rfl)) au)) (cg dG rfl T.j9 (by decide +kernel) (aj (pv 12) au)) (gC _))
      (aQ (bL Od))
      fV)))))))
   (aM (bx (i:=13) gq.nd rfl (Or.inl rfl) (cg (wz rfl) rfl T.Pj (by decide +kernel) (aj (fW ["_law_one"] [none] rfl (gQ (pv 8)) (λ_ _ _ _ _=>(cN (i:=0) (by decide +kernel) rfl rfl)) (λ_ _ _ _ _=>jl) (λ_ _ _ _ _=>(aW sr (hr.mono (by decide)) (glc rfl) (aj (pvl 0) au)))) au)))
   (aQ (bL (Ea Qs (pv 13) (cg (wz rfl) rfl T.Pj (by decide +kernel) (aj (fW ["_law_one"] [none] rfl (gQ (pv 5)) (λ_ _ _ _ _=>(cN (i:=0) (by decide +kernel) rfl rfl)) (λ_ _ _ _ _=>jl) (λ_ _ _ _ _=>(aW sr (hr.mono (by decide)) (glc rfl) (aj (pvl 0) au)))) au)) (gC _))))))))))))),Af (b:=Gg) (k:=1) (n:=13) rfl (λps r e=>match ps,e with|[_],e=>⟨rfl,e⟩) h λio H0 F0 hio hT=>?_⟩
 exact(aX (bC (bO (ao (ak 0) aN)) (lZ (cQ (aL 1) (cQ (aL 2) jA))))
   (aX (bC (bO (ao (aB aF.up dU (bO (ao (ak 0) (ao aG aN))) (aB aF.up uv aG aG)) aN)) (lZ (cQ (aL 3) (cQ (aL 4) jA))))
   (aX (bC (iD (sX (ao (ak 0) (ao (dN jV (fB (aB aF.up iG (ak 1) aG))) (ao (aB aF.up zA (ak 3) (ak 4)) aN))))) (aL 5))
   (aX (bC (xO (tu (ao (ak 1) (ao (d8 (ao (ak 3) (ao (ak 4) aN))) (ao (ak 5) aN))))) (aL 6))
   (aX (bC (iD (mR hT (hio _) (ao (ak 1) (ao (ak 6) aN)))) (aL 7))
   (aX (bC (iD (sX (ao (ak 1) (ao (ak 6) (ao (ak 7) aN))))) (aL 8))
   (aX (lH (dM (aB aH.up Th (fB (xO (tu (ao (ak 1) (ao (d8 (ao (ak 3) (ao (ak 4) aN))) (ao (ak 8) aN)))))) (eX 6)))
    (cV Ow)
    fX)
   (aX (gG (gb (ao (ak 4) aN)) (aL 9)
    (gG (gb (ao (ak 3) aN)) (aL 10)
     (aX (bC (aB aF.up dz (aB aF.up zA (ak 9) (ak 3)) (ak 10)) (aL 11))
     (aX (bC (iD (gh (iU (ak 5)) (aL 0) (dC 0) (dM (aB aH.up JC (fB (aB aF.up dU (aB aF.up OD (ak 0) (ak 1)) aG)) (fB aG))) (ak 0))) (aL 12))
     (lH (dM (aB aF.up R4 (dN jV (fB (sZ (jg 7) (aB aF.up iG (aB aF.up iG (ak 6) (ak 9)) (ak 10))))) (dN jV (eX 12))))
      (cV Ow)
      fX)))))
   (aX (bC (dN JQ (jz (gh (iU (ak 8)) (aL 0) (dC 0) jn (bO (ao (ak 0) aN))))) (aL 13))
   (cV (aB aF.up Tg (ak 13) (dN JQ (jz (gh (iU (ak 5)) (aL 0) (dC 0) jn (bO (ao (ak 0) aN))))))))))))))))
end
theorem Rg{l:PySem.W.OpenLaw}{w:World}{K:Frag}{h:Heap}{mg:Str->Option Value}{fa f0 f1 f2 f3 f4 f5 f6 f7 f8 f9 f10 f11 f12 f13 f14 f15 f16 f17 f18 f19 f20 f21 f22 f23 f24 f25 f26:Addr}(X:(aU K 90).In h)(G:h.Ns mainGlobals mg)(hfa:mg "law"=some (.ref fa))
  {od0 an0 od1 an1 od2 an2 od3 an3 od4 an4 od5 an5 od6 an6 od7 an7 od8 an8 od9 an9 od10 an10 od11 an11 od12 an12 od13 an13 od14 an14 od15 an15 od16 an16 od17 an17 od18 an18 od19 an19 od20 an20 od21 an21 od22 an22 od23 an23 od24 an24 od25 an25 od26 an26:Option Addr}{sl0 sl1 sl2 sl3 sl4 sl5 sl6 sl7 sl8 sl9 sl10 sl11 sl12 sl13 sl14 sl15 sl16 sl17 sl18 sl19 sl20 sl21 sl22 sl23 sl24 sl25 sl26:Array (Option Value)}{oc0 kV0 dc0 pm0 cd0 ct0 oc1 kV1 dc1 pm1 cd1 ct1 oc2 kV2 dc2 pm2 cd2 ct2 oc3 kV3 dc3 pm3 cd3 ct3 oc4 kV4 dc4 pm4 cd4 ct4 oc5 kV5 dc5 pm5 cd5 ct5 oc6 kV6 dc6 pm6 cd6 ct6 oc7 kV7 dc7 pm7 cd7 ct7 oc8 kV8 dc8 pm8 cd8 ct8 oc9 kV9 dc9 pm9 cd9 ct9 oc10 kV10 dc10 pm10 cd10 ct10 oc11 kV11 dc11 pm11 cd11 ct11 oc12 kV12 dc12 pm12 cd12 ct12 oc13 kV13 dc13 pm13 cd13 ct13 oc14 kV14 dc14 pm14 cd14 ct14 oc15 kV15 dc15 pm15 cd15 ct15 oc16 kV16 dc16 pm16 cd16 ct16 oc17 kV17 dc17 pm17 cd17 ct17 oc18 kV18 dc18 pm18 cd18 ct18 oc19 kV19 dc19 pm19 cd19 ct19 oc20 kV20 dc20 pm20 cd20 ct20 oc21 kV21 dc21 pm21 cd21 ct21 oc22 kV22 dc22 pm22 cd22 ct22 oc23 kV23 dc23 pm23 cd23 ct23 oc24 kV24 dc24 pm24 cd24 ct24 oc25 kV25 dc25 pm25 cd25 ct25 oc26 kV26 dc26 pm26 cd26 ct26:Value}{t_COVER:Tok}
  (a0:nsIn K mainGlobals "place_of"=some (some (.ref f0)))(l0:K.lookup f0=some ⟨oc0,od0,.func (fnOf "place_of" "place_of" (bj (top 4)) (aZ (top 4)) (aA (top 4)) .none kV0 dc0 pm0 an0 cd0 ct0),sl0⟩)(c0:codeIn K cd0 "place_of"=true)(k0:keepIn K (.ref f0)=true)
  (a1:nsIn K mainGlobals "has_cell"=some (some (.ref f1)))(l1:K.lookup f1=some ⟨oc1,od1,.func (fnOf "has_cell" "has_cell" (bj (top 5)) (aZ (top 5)) (aA (top 5)) .none kV1 dc1 pm1 an1 cd1 ct1),sl1⟩)(c1:codeIn K cd1 "has_cell"=true)(k1:keepIn K (.ref f1)=true)
  (a2:nsIn K mainGlobals "set_of"=some (some (.ref f2)))(l2:K.lookup f2=some ⟨oc2,od2,.func (fnOf "set_of" "set_of" (bj (top 6)) (aZ (top 6)) (aA (top 6)) .none kV2 dc2 pm2 an2 cd2 ct2),sl2⟩)(c2:codeIn K cd2 "set_of"=true)(k2:keepIn K (.ref f2)=true)
  (a3:nsIn K mainGlobals "laid"=some (some (.ref f3)))(l3:K.lookup f3=some ⟨oc3,od3,.func (fnOf "laid" "laid" (bj (top 9)) (aZ (top 9)) (aA (top 9)) .none kV3 dc3 pm3 an3 cd3 ct3),sl3⟩)(c3:codeIn K cd3 "laid"=true)(k3:keepIn K (.ref f3)=true)
  (a4:nsIn K mainGlobals "colour_of"=some (some (.ref f4)))(l4:K.lookup f4=some ⟨oc4,od4,.func (fnOf "colour_of" "colour_of" (bj (top 10)) (aZ (top 10)) (aA (top 10)) .none kV4 dc4 pm4 an4 cd4 ct4),sl4⟩)(c4:codeIn K cd4 "colour_of"=true)(k4:keepIn K (.ref f4)=true)
  (a5:nsIn K mainGlobals "size_of"=some (some (.ref f5)))(l5:K.lookup f5=some ⟨oc5,od5,.func (fnOf "size_of" "size_of" (bj (top 12)) (aZ (top 12)) (aA (top 12)) .none kV5 dc5 pm5 an5 cd5 ct5),sl5⟩)(c5:codeIn K cd5 "size_of"=true)(k5:keepIn K (.ref f5)=true)
  (a6:nsIn K mainGlobals "all_stacks"=some (some (.ref f6)))(l6:K.lookup f6=some ⟨oc6,od6,.func (fnOf "all_stacks" "all_stacks" (bj (top 14)) (aZ (top 14)) (aA (top 14)) .none kV6 dc6 pm6 an6 cd6 ct6),sl6⟩)(c6:codeIn K cd6 "all_stacks"=true)(k6:keepIn K (.ref f6)=true)
  (a7:nsIn K mainGlobals "stacks_by_colour"=some (some (.ref f7)))(l7:K.lookup f7=some ⟨oc7,od7,.func (fnOf "stacks_by_colour" "stacks_by_colour" (bj (top 15)) (aZ (top 15)) (aA (top 15)) .none kV7 dc7 pm7 an7 cd7 ct7),sl7⟩)(c7:codeIn K cd7 "stacks_by_colour"=true)(k7:keepIn K (.ref f7)=true)
  (a8:nsIn K mainGlobals "cells_by_colour"=some (some (.ref f8)))(l8:K.lookup f8=some ⟨oc8,od8,.func (fnOf "cells_by_colour" "cells_by_colour" (bj (top 16)) (aZ (top 16)) (aA (top 16)) .none kV8 dc8 pm8 an8 cd8 ct8),sl8⟩)(c8:codeIn K cd8 "cells_by_colour"=true)(k8:keepIn K (.ref f8)=true)
  (a9:nsIn K mainGlobals "stacks_for"=some (some (.ref f9)))(l9:K.lookup f9=some ⟨oc9,od9,.func (fnOf "stacks_for" "stacks_for" (bj (top 17)) (aZ (top 17)) (aA (top 17)) .none kV9 dc9 pm9 an9 cd9 ct9),sl9⟩)(c9:codeIn K cd9 "stacks_for"=true)(k9:keepIn K (.ref f9)=true)
  (a10:nsIn K mainGlobals "least_choices"=some (some (.ref f10)))(l10:K.lookup f10=some ⟨oc10,od10,.func (fnOf "least_choices" "least_choices" (bj (top 18)) (aZ (top 18)) (aA (top 18)) .none kV10 dc10 pm10 an10 cd10 ct10),sl10⟩)(c10:codeIn K cd10 "least_choices"=true)(k10:keepIn K (.ref f10)=true)
  (a11:nsIn K mainGlobals "sets_by_colour"=some (some (.ref f11)))(l11:K.lookup f11=some ⟨oc11,od11,.func (fnOf "sets_by_colour" "sets_by_colour" (bj (top 19)) (aZ (top 19)) (aA (top 19)) .none kV11 dc11 pm11 an11 cd11 ct11),sl11⟩)(c11:codeIn K cd11 "sets_by_colour"=true)(k11:keepIn K (.ref f11)=true)
  (a12:nsIn K mainGlobals "state_of"=some (some (.ref f12)))(l12:K.lookup f12=some ⟨oc12,od12,.func (fnOf "state_of" "state_of" (bj (top 20)) (aZ (top 20)) (aA (top 20)) .none kV12 dc12 pm12 an12 cd12 ct12),sl12⟩)(c12:codeIn K cd12 "state_of"=true)(k12:keepIn K (.ref f12)=true)
  (a13:nsIn K mainGlobals "states_by"=some (some (.ref f13)))(l13:K.lookup f13=some ⟨oc13,od13,.func (fnOf "states_by" "states_by" (bj (top 21)) (aZ (top 21)) (aA (top 21)) .none kV13 dc13 pm13 an13 cd13 ct13),sl13⟩)(c13:codeIn K cd13 "states_by"=true)(k13:keepIn K (.ref f13)=true)
  (a14:nsIn K mainGlobals "stack_at"=some (some (.ref f14)))(l14:K.lookup f14=some ⟨oc14,od14,.func (fnOf "stack_at" "stack_at" (bj (top 23)) (aZ (top 23)) (aA (top 23)) .none kV14 dc14 pm14 an14 cd14 ct14),sl14⟩)(c14:codeIn K cd14 "stack_at"=true)(k14:keepIn K (.ref f14)=true)
  (a15:nsIn K mainGlobals "pressed_row"=some (some (.ref f15)))(l15:K.lookup f15=some ⟨oc15,od15,.func (fnOf "pressed_row" "pressed_row" (bj (top 24)) (aZ (top 24)) (aA (top 24)) .none kV15 dc15 pm15 an15 cd15 ct15),sl15⟩)(c15:codeIn K cd15 "pressed_row"=true)(k15:keepIn K (.ref f15)=true)
  (a16:nsIn K mainGlobals "pressed"=some (some (.ref f16)))(l16:K.lookup f16=some ⟨oc16,od16,.func (fnOf "pressed" "pressed" (bj (top 25)) (aZ (top 25)) (aA (top 25)) .none kV16 dc16 pm16 an16 cd16 ct16),sl16⟩)(c16:codeIn K cd16 "pressed"=true)(k16:keepIn K (.ref f16)=true)
  (a17:nsIn K mainGlobals "_law_cell_at"=some (some (.ref f17)))(l17:K.lookup f17=some ⟨oc17,od17,.func (fnOf "_law_cell_at" "_law_cell_at" (bj (top 27)) (aZ (top 27)) (aA (top 27)) .none kV17 dc17 pm17 an17 cd17 ct17),sl17⟩)(c17:codeIn K cd17 "_law_cell_at"=true)(k17:keepIn K (.ref f17)=true)
  (a18:nsIn K mainGlobals "_law_mixed"=some (some (.ref f18)))(l18:K.lookup f18=some ⟨oc18,od18,.func (fnOf "_law_mixed" "_law_mixed" (bj (top 28)) (aZ (top 28)) (aA (top 28)) .none kV18 dc18 pm18 an18 cd18 ct18),sl18⟩)(c18:codeIn K cd18 "_law_mixed"=true)(k18:keepIn K (.ref f18)=true)
  (a19:nsIn K mainGlobals "_law_number"=some (some (.ref f19)))(l19:K.lookup f19=some ⟨oc19,od19,.func (fnOf "_law_number" "_law_number" (bj (top 29)) (aZ (top 29)) (aA (top 29)) .none kV19 dc19 pm19 an19 cd19 ct19),sl19⟩)(c19:codeIn K cd19 "_law_number"=true)(k19:keepIn K (.ref f19)=true)
  (a20:nsIn K mainGlobals "_law_word"=some (some (.ref f20)))(l20:K.lookup f20=some ⟨oc20,od20,.func (fnOf "_law_word" "_law_word" (bj (top 30)) (aZ (top 30)) (aA (top 30)) .none kV20 dc20 pm20 an20 cd20 ct20),sl20⟩)(c20:codeIn K cd20 "_law_word"=true)(k20:keepIn K (.ref f20)=true)
  (a21:nsIn K mainGlobals "_law_glaze"=some (some (.ref f21)))(l21:K.lookup f21=some ⟨oc21,od21,.func (fnOf "_law_glaze" "_law_glaze" (bj (top 31)) (aZ (top 31)) (aA (top 31)) .none kV21 dc21 pm21 an21 cd21 ct21),sl21⟩)(c21:codeIn K cd21 "_law_glaze"=true)(k21:keepIn K (.ref f21)=true)
  (a22:nsIn K mainGlobals "_law_bench"=some (some (.ref f22)))(l22:K.lookup f22=some ⟨oc22,od22,.func (fnOf "_law_bench" "_law_bench" (bj (top 32)) (aZ (top 32)) (aA (top 32)) .none kV22 dc22 pm22 an22 cd22 ct22),sl22⟩)(c22:codeIn K cd22 "_law_bench"=true)(k22:keepIn K (.ref f22)=true)
  (a23:nsIn K mainGlobals "_law_size"=some (some (.ref f23)))(l23:K.lookup f23=some ⟨oc23,od23,.func (fnOf "_law_size" "_law_size" (bj (top 36)) (aZ (top 36)) (aA (top 36)) .none kV23 dc23 pm23 an23 cd23 ct23),sl23⟩)(c23:codeIn K cd23 "_law_size"=true)(k23:keepIn K (.ref f23)=true)
  (a24:nsIn K mainGlobals "_law_states"=some (some (.ref f24)))(l24:K.lookup f24=some ⟨oc24,od24,.func (fnOf "_law_states" "_law_states" (bj (top 37)) (aZ (top 37)) (aA (top 37)) .none kV24 dc24 pm24 an24 cd24 ct24),sl24⟩)(c24:codeIn K cd24 "_law_states"=true)(k24:keepIn K (.ref f24)=true)
  (a25:nsIn K mainGlobals "_law_many"=some (some (.ref f25)))(l25:K.lookup f25=some ⟨oc25,od25,.func (fnOf "_law_many" "_law_many" (bj (top 38)) (aZ (top 38)) (aA (top 38)) .none kV25 dc25 pm25 an25 cd25 ct25),sl25⟩)(c25:codeIn K cd25 "_law_many"=true)(k25:keepIn K (.ref f25)=true)
  (a26:nsIn K mainGlobals "law"=some (some (.ref f26)))(l26:K.lookup f26=some ⟨oc26,od26,.func (fnOf "law" "law" (bj (top 39)) (aZ (top 39)) (aA (top 39)) .none kV26 dc26 pm26 an26 cd26 ct26),sl26⟩)(c26:codeIn K cd26 "law"=true)(k26:keepIn K (.ref f26)=true)
  (BV:nsIn K mainGlobals "abs"=some none)(vz:nsIn K mainGlobals "dict"=some none)(iB:nsIn K mainGlobals "enumerate"=some none)(BW:nsIn K mainGlobals "len"=some none)(qP:nsIn K mainGlobals "range"=some none)(nC:nsIn K mainGlobals "sorted"=some none)(BX:nsIn K mainGlobals "sum"=some none)(qQ:nsIn K mainGlobals "tuple"=some none)(qR:nsIn K mainGlobals "COVER"=some (some (.str "cover" t_COVER)))(tK:K.lookup 90=some (PySem.W.tabObj #[]))(tq:cd6=.ref 92) :
  ∃ fd:FuncData,(∀ (s:Shared) (v:Value),BindsTo s fd ⟨[v],[]⟩ [("_law_script",v)])/\∀ base:Heap,(aU K 90).In base->base.Ns mainGlobals mg->PySem.W.CodeHd base 92 90->base.BuiltinsAt mg 90->vA l.prog w (aU K 90) mg base CX0 9 fa fd ["_law_script"] (spT 90 LP LQ (spM (aU K 90) XR0 wM)):=by
 have a0:=cC tK a0;have l0:=dI tK l0;have c0:=bM tK c0;have k0:=bN l0;have a1:=cC tK a1;have l1:=dI tK l1;have c1:=bM tK c1;have k1:=bN l1;have a2:=cC tK a2;have l2:=dI tK l2;have c2:=bM tK c2;have k2:=bN l2;have a3:=cC tK a3;have l3:=dI tK l3;have c3:=bM tK c3;have k3:=bN l3;have a4:=cC tK a4;have l4:=dI tK l4;have c4:=bM tK c4;have k4:=bN l4;have a5:=cC tK a5;have l5:=dI tK l5;have c5:=bM tK c5;have k5:=bN l5;have a6:=cC tK a6;have l6:=dI tK l6;have c6:=bM tK c6;have k6:=bN l6;have a7:=cC tK a7;have l7:=dI tK l7;have c7:=bM tK c7;have k7:=bN l7;have a8:=cC tK a8;have l8:=dI tK l8;have c8:=bM tK c8;have k8:=bN l8;have a9:=cC tK a9;have l9:=dI tK l9;have c9:=bM tK c9;have k9:=bN l9;have a10:=cC tK a10;have l10:=dI tK l10;have c10:=bM tK c10;have k10:=bN l10;have a11:=cC tK a11;have l11:=dI tK l11;have c11:=bM tK c11;have k11:=bN l11;have a12:=cC tK a12;have l12:=dI tK l12;have c12:=bM tK c12;have k12:=bN l12;have a13:=cC tK a13;have l13:=dI tK l13;have c13:=bM tK c13;have k13:=bN l13;have a14:=cC tK a14;have l14:=dI tK l14;have c14:=bM tK c14;have k14:=bN l14;have a15:=cC tK a15;have l15:=dI tK l15;have c15:=bM tK c15;have k15:=bN l15;have a16:=cC tK a16;have l16:=dI tK l16;have c16:=bM tK c16;have k16:=bN l16;have a17:=cC tK a17;have l17:=dI tK l17;have c17:=bM tK c17;have k17:=bN l17;have a18:=cC tK a18;have l18:=dI tK l18;have c18:=bM tK c18;have k18:=bN l18;have a19:=cC tK a19;have l19:=dI tK l19;have c19:=bM tK c19;have k19:=bN l19;have a20:=cC tK a20;have l20:=dI tK l20;have c20:=bM tK c20;have k20:=bN l20;have a21:=cC tK a21;have l21:=dI tK l21;have c21:=bM tK c21;have k21:=bN l21;have a22:=cC tK a22;have l22:=dI tK l22;have c22:=bM tK c22;have k22:=bN l22;have a23:=cC tK a23;have l23:=dI tK l23;have c23:=bM tK c23;have k23:=bN l23;have a24:=cC tK a24;have l24:=dI tK l24;have c24:=bM tK c24;have k24:=bN l24;have a25:=cC tK a25;have l25:=dI tK l25;have c25:=bM tK c25;have k25:=bN l25;have a26:=cC tK a26;have l26:=dI tK l26;have c26:=bM tK c26;have k26:=bN l26;have BV:=cC tK BV;have vz:=cC tK vz;have iB:=cC tK iB;have BW:=cC tK BW;have qP:=cC tK qP;have nC:=cC tK nC;have BX:=cC tK BX;have qQ:=cC tK qQ;have qR:=cC tK qR;have hcc:∀ (f:Addr) (oc:Value) (od:Option Addr) (fd:FuncData) (osl:Array (Option Value)),mg "all_stacks"=some (.ref f)->(aU K 90).lookup f=some ⟨oc,od,.func fd,osl⟩->fd.code=.ref 92:=λf oc od fd osl e1 e2=>by
  rw[ZaB X G a6] at e1;cases e1;rw[l6] at e2;cases e2;exact tq
 have e:=hfa.symm.trans (ZaB X G a26);cases e;have T:Txt mg:=⟨trivial,Zbl X G BV,Zbl X G vz,Zbl X G iB,Zbl X G BW,Zbl X G qP,Zbl X G nC,Zbl X G BX,Zbl X G qQ,⟨_,ZaB X G qR⟩⟩;have F0:=cj (st:=top 4) l0 c0 k0;have D0:bh (aU K 90) mg "place_of" (top 4) ["size","cell"]:=⟨⟨_,_,ZaB X G a0,F0,F0.binds λ_ _ _ _ _ _ us hl=>by obtain⟨_,_,rfl⟩:=uQ hl;rfl⟩⟩
 have F1:=cj (st:=top 5) l1 c1 k1;have D1:bh (aU K 90) mg "has_cell" (top 5) ["size","some","cell"]:=⟨⟨_,_,ZaB X G a1,F1,F1.binds λ_ _ _ _ _ _ us hl=>by obtain⟨_,_,_,rfl⟩:=z8 hl;rfl⟩⟩
 have F2:=cj (st:=top 6) l2 c2 k2;have D2:bh (aU K 90) mg "set_of" (top 6) ["size","cells"]:=⟨⟨_,_,ZaB X G a2,F2,F2.binds λ_ _ _ _ _ _ us hl=>by obtain⟨_,_,rfl⟩:=uQ hl;rfl⟩⟩
 have F3:=cj (st:=top 9) l3 c3 k3;have D3:bh (aU K 90) mg "laid" (top 9) ["ink","colour"]:=⟨⟨_,_,ZaB X G a3,F3,F3.binds λ_ _ _ _ _ _ us hl=>by obtain⟨_,_,rfl⟩:=uQ hl;rfl⟩⟩
 have F4:=cj (st:=top 10) l4 c4 k4;have D4:bh (aU K 90) mg "colour_of" (top 10) ["bench","stack"]:=⟨⟨_,_,ZaB X G a4,F4,F4.binds λ_ _ _ _ _ _ us hl=>by obtain⟨_,_,rfl⟩:=uQ hl;rfl⟩⟩
 have F5:=cj (st:=top 12) l5 c5 k5;have D5:bh (aU K 90) mg "size_of" (top 12) ["picture"]:=⟨⟨_,_,ZaB X G a5,F5,F5.binds λ_ _ _ _ _ _ us hl=>by obtain⟨_,rfl⟩:=xY hl;rfl⟩⟩
 have F6:=cj (st:=top 14) l6 c6 k6;have D6:bh (aU K 90) mg "all_stacks" (top 14) ["many"]:=⟨⟨_,_,ZaB X G a6,F6,F6.binds λ_ _ _ _ _ _ us hl=>by obtain⟨_,rfl⟩:=xY hl;rfl⟩⟩
 have F7:=cj (st:=top 15) l7 c7 k7;have D7:bh (aU K 90) mg "stacks_by_colour" (top 15) ["bench"]:=⟨⟨_,_,ZaB X G a7,F7,F7.binds λ_ _ _ _ _ _ us hl=>by obtain⟨_,rfl⟩:=xY hl;rfl⟩⟩
 have F8:=cj (st:=top 16) l8 c8 k8;have D8:bh (aU K 90) mg "cells_by_colour" (top 16) ["picture"]:=⟨⟨_,_,ZaB X G a8,F8,F8.binds λ_ _ _ _ _ _ us hl=>by obtain⟨_,rfl⟩:=xY hl;rfl⟩⟩
 have F9:=cj (st:=top 17) l9 c9 k9;have D9:bh (aU K 90) mg "stacks_for" (top 17) ["bench","picture"]:=⟨⟨_,_,ZaB X G a9,F9,F9.binds λ_ _ _ _ _ _ us hl=>by obtain⟨_,_,rfl⟩:=uQ hl;rfl⟩⟩
 have F10:=cj (st:=top 18) l10 c10 k10;have D10:bh (aU K 90) mg "least_choices" (top 18) ["bench","picture"]:=⟨⟨_,_,ZaB X G a10,F10,F10.binds λ_ _ _ _ _ _ us hl=>by obtain⟨_,_,rfl⟩:=uQ hl;rfl⟩⟩
 have F11:=cj (st:=top 19) l11 c11 k11;have D11:bh (aU K 90) mg "sets_by_colour" (top 19) ["picture"]:=⟨⟨_,_,ZaB X G a11,F11,F11.binds λ_ _ _ _ _ _ us hl=>by obtain⟨_,rfl⟩:=xY hl;rfl⟩⟩
 have F12:=cj (st:=top 20) l12 c12 k12;have D12:bh (aU K 90) mg "state_of" (top 20) ["sets","choices","number"]:=⟨⟨_,_,ZaB X G a12,F12,F12.binds λ_ _ _ _ _ _ us hl=>by obtain⟨_,_,_,rfl⟩:=z8 hl;rfl⟩⟩
 have F13:=cj (st:=top 21) l13 c13 k13;have D13:bh (aU K 90) mg "states_by" (top 21) ["bench","picture","choices"]:=⟨⟨_,_,ZaB X G a13,F13,F13.binds λ_ _ _ _ _ _ us hl=>by obtain⟨_,_,_,rfl⟩:=z8 hl;rfl⟩⟩
 have F14:=cj (st:=top 23) l14 c14 k14;have D14:bh (aU K 90) mg "stack_at" (top 23) ["size","states","cell"]:=⟨⟨_,_,ZaB X G a14,F14,F14.binds λ_ _ _ _ _ _ us hl=>by obtain⟨_,_,_,rfl⟩:=z8 hl;rfl⟩⟩
 have F15:=cj (st:=top 24) l15 c15 k15;have D15:bh (aU K 90) mg "pressed_row" (top 24) ["bench","size","states","row"]:=⟨⟨_,_,ZaB X G a15,F15,F15.binds λ_ _ _ _ _ _ us hl=>by obtain⟨_,_,_,_,rfl⟩:=Tq hl;rfl⟩⟩
 have F16:=cj (st:=top 25) l16 c16 k16;have D16:bh (aU K 90) mg "pressed" (top 25) ["bench","size","states"]:=⟨⟨_,_,ZaB X G a16,F16,F16.binds λ_ _ _ _ _ _ us hl=>by obtain⟨_,_,_,rfl⟩:=z8 hl;rfl⟩⟩
 have F17:=cj (st:=top 27) l17 c17 k17;have D17:bh (aU K 90) mg "_law_cell_at" (top 27) ["_law_script","_law_k"]:=⟨⟨_,_,ZaB X G a17,F17,F17.binds λ_ _ _ _ _ _ us hl=>by obtain⟨_,_,rfl⟩:=uQ hl;rfl⟩⟩
 have F18:=cj (st:=top 28) l18 c18 k18;have D18:bh (aU K 90) mg "_law_mixed" (top 28) ["_law_cell","_law_k"]:=⟨⟨_,_,ZaB X G a18,F18,F18.binds λ_ _ _ _ _ _ us hl=>by obtain⟨_,_,rfl⟩:=uQ hl;rfl⟩⟩
 have F19:=cj (st:=top 29) l19 c19 k19;have D19:bh (aU K 90) mg "_law_number" (top 29) ["_law_script","_law_k","_law_at"]:=⟨⟨_,_,ZaB X G a19,F19,F19.binds λ_ _ _ _ _ _ us hl=>by obtain⟨_,_,_,rfl⟩:=z8 hl;rfl⟩⟩
 have F20:=cj (st:=top 30) l20 c20 k20;have D20:bh (aU K 90) mg "_law_word" (top 30) ["_law_place","_law_k"]:=⟨⟨_,_,ZaB X G a20,F20,F20.binds λ_ _ _ _ _ _ us hl=>by obtain⟨_,_,rfl⟩:=uQ hl;rfl⟩⟩
 have F21:=cj (st:=top 31) l21 c21 k21;have D21:bh (aU K 90) mg "_law_glaze" (top 31) ["_law_number_here","_law_colours"]:=⟨⟨_,_,ZaB X G a21,F21,F21.binds λ_ _ _ _ _ _ us hl=>by obtain⟨_,_,rfl⟩:=uQ hl;rfl⟩⟩
 have F22:=cj (st:=top 32) l22 c22 k22;have D22:bh (aU K 90) mg "_law_bench" (top 32) ["_law_script"]:=⟨⟨_,_,ZaB X G a22,F22,F22.binds λ_ _ _ _ _ _ us hl=>by obtain⟨_,rfl⟩:=xY hl;rfl⟩⟩
 have F23:=cj (st:=top 36) l23 c23 k23;have D23:bh (aU K 90) mg "_law_size" (top 36) ["_law_cell"]:=⟨⟨_,_,ZaB X G a23,F23,F23.binds λ_ _ _ _ _ _ us hl=>by obtain⟨_,rfl⟩:=xY hl;rfl⟩⟩
 have F24:=cj (st:=top 37) l24 c24 k24;have D24:bh (aU K 90) mg "_law_states" (top 37) ["_law_script","_law_many_here","_law_cells"]:=⟨⟨_,_,ZaB X G a24,F24,F24.binds λ_ _ _ _ _ _ us hl=>by obtain⟨_,_,_,rfl⟩:=z8 hl;rfl⟩⟩
 have F25:=cj (st:=top 38) l25 c25 k25;have D25:bh (aU K 90) mg "_law_many" (top 38) ["_law_some"]:=⟨⟨_,_,ZaB X G a25,F25,F25.binds λ_ _ _ _ _ _ us hl=>by obtain⟨_,rfl⟩:=xY hl;rfl⟩⟩
 have F26:=cj (st:=top 39) l26 c26 k26;refine⟨fnOf "law" "law" (bj (top 39)) (aZ (top 39)) (aA (top 39)) .none kV26 dc26 pm26 an26 cd26 ct26,λs v=>.of_eq rfl,λbase _ _ hCd hBI=>?_⟩;have G0:=Bt (P:=l.prog) (w:=w) (base:=base) T D0;have G1:=Bv (P:=l.prog) (w:=w) (base:=base) T D1 G0;have G2:=Ii (P:=l.prog) (w:=w) (base:=base) T D2 G0;have G3:=Ob (P:=l.prog) (w:=w) (base:=base) T D3;have G4:=yD (P:=l.prog) (w:=w) (base:=base) T D4 G3;have G5:=Dv (P:=l.prog) (w:=w) (base:=base) T D5;have G6:=vK (P:=l.prog) (w:=w) (base:=base) T D6 hcc hCd hBI;have G7:=oA (P:=l.prog) (w:=w) (base:=base) T D7 G6 G4;have G8:=pH (P:=l.prog) (w:=w) (base:=base) T D8;have G9:=vL (P:=l.prog) (w:=w) (base:=base) T D9 G7 G8;have G10:=rO (P:=l.prog) (w:=w) (base:=base) T D10 G9;have G11:=qM (P:=l.prog) (w:=w) (base:=base) T D11 G5 G8 G2;have G12:=Bw (P:=l.prog) (w:=w) (base:=base) T D12;have G13:=yE (P:=l.prog) (w:=w) (base:=base) T D13 G11 G12;have G14:=By (P:=l.prog) (w:=w) (base:=base) T D14 G1;have G15:=vy (P:=l.prog) (w:=w) (base:=base) T D15 G4 G14;have G16:=Dy (P:=l.prog) (w:=w) (base:=base) T D16 G15;have G17:=yG (P:=l.prog) (w:=w) (base:=base) T D17;have G18:=DG (P:=l.prog) (w:=w) (base:=base) T D18;have G19:=BJ (P:=l.prog) (w:=w) (base:=base) T D19 G17 G18;have G20:=Ik (P:=l.prog) (w:=w) (base:=base) T D20;have G21:=DK (P:=l.prog) (w:=w) (base:=base) T D21;have G22:=DN (P:=l.prog) (w:=w) (base:=base) T D22 G19 G20 G17 G21;have G23:=Im (P:=l.prog) (w:=w) (base:=base) T D23;have G24:=BK (P:=l.prog) (w:=w) (base:=base) T D24 G19 G17;have G25:=Io (P:=l.prog) (w:=w) (base:=base) T D25;exact Rf (P:=l.prog) (w:=w) (base:=base) T F26 G22 G23 G17 G24 G16 G10 G13 G25
theorem walk{l:PySem.W.OpenLaw}{q:Program}{loose:List Str}{XP:(Str->Option Value)->Heap->Prop}{YP:World->Heap->Prop}{d:DefRec}{K:Params->Frag}(hn:l.most=some 63)(hdf:d.params.defaults=[])
  (hY:∀ (w:World) (h:Heap),YP w h->(K w.params).In h)(hPT:∀ (w:World) (h:Heap),YP w h->h.get? 90=some (PySem.W.tabObj #[])/\PySem.W.CodeHd h 92 90)
  (F:∀ (w:World) (mg:Str->Option Value) (fa:Addr) (h:Heap),(aU (K w.params) 90).In h->h.Ns mainGlobals mg->mg d.name=some (.ref fa) ->
   ∃ fd:FuncData,(∀ (s:Shared) (u:Value),BindsTo s fd ⟨[u],[]⟩ [("_law_script",u)])/\∀ base:Heap,(aU (K w.params) 90).In base->base.Ns mainGlobals mg->PySem.W.CodeHd base 92 90->base.BuiltinsAt mg 90->vA l.prog w (aU (K w.params) 90) mg base CX0 9 fa fd ["_law_script"] (spT 90 LP LQ (spM (aU (K w.params) 90) XR0 wM)))
  (main:∀ ns:List Int,ns.length<=63->wM [.lst (ns.map PV.int)]=some (.ok (.bl true))) :
  PySem.W.WalkO q loose XP YP l.row.toRowW d [] (λf vs=>PySem.call f vs):=
 L2.Ky (n:=63) (k:=9) (x:="_law_script") (K:=λP=>aU (K P) 90) (PT:=90) (cc:=92) (lpos:=LP) (qn:=LQ) (sp:=λw=>spT 90 LP LQ (spM (aU (K w.params) 90) XR0 wM)) hn (by decide) hdf ⟨rfl,by decide,by decide⟩ (λw h Y=>Dk (hY w h Y)) hPT (λw=>lq _ _) F (λw H a ns hl hT hS=>⟨hT,[.lst (ns.map PV.int)],H,.ok (.bl true),aR.refl _,bQ.nil.cons (.lst hS (bQ.xg (K:=(aU (K w.params) 90)) (F:=H) ns).1 (bQ.xg ns).2),main ns hl,λv F' H' u rv=>⟨Rep.lY rv,u.hh _ _ hT⟩⟩)
end MM
open PySem PySem.W PyProof.Rows
set_option maxRecDepth 100000 in
set_option maxHeartbeats 0 in
theorem PySem.Challenge.cw_lostblock_k21_whole_pressed_and_wished_holds : PySem.Challenge.rw_lostblock_k21_whole_pressed_and_wished.Holds := by
 w_on;o_law;o_head (kHook MM.KK [3,52,53,59,60,66,67,73,74,80,81,87,88,90,92,93,99,100,106,107,111,112,116,117,121,122,128,129,133,134,138,139,143,144,148,149,155,156,162,163,169,170,176,177,181,182,186,187,212,213,219,220,226,227,231,232] (λ_=>by kernel_rfl));(case hw=>w_witness2)
 k_fill
 refine MM.walk (l:=PySem.Challenge.rw_lostblock_k21_whole_pressed_and_wished) rfl rfl (λw h Y=>PySem.W.kIn_of Y) ?PT ?F MM.law_main
 case PT=>
  intro w h Y;have KX:=PySem.W.kIn_of Y;exact⟨KX 90 _ (by k_is),_,_,_,_,_,_,_,_,_,KX 92 _ (by k_is),rfl,rfl,rfl,rfl,rfl,rfl,rfl,rfl,by decide⟩
 case F=>
  intro w mg fa h KX G hmg;refine' MM.Rg KX G hmg ?a0 ?l0 ?c0 ?k0 ?a1 ?l1 ?c1 ?k1 ?a2 ?l2 ?c2 ?k2 ?a3 ?l3 ?c3 ?k3 ?a4 ?l4 ?c4 ?k4 ?a5 ?l5 ?c5 ?k5 ?a6 ?l6 ?c6 ?k6 ?a7 ?l7 ?c7 ?k7 ?a8 ?l8 ?c8 ?k8 ?a9 ?l9 ?c9 ?k9 ?a10 ?l10 ?c10 ?k10 ?a11 ?l11 ?c11 ?k11 ?a12 ?l12 ?c12 ?k12 ?a13 ?l13 ?c13 ?k13 ?a14 ?l14 ?c14 ?k14 ?a15 ?l15 ?c15 ?k15 ?a16 ?l16 ?c16 ?k16 ?a17 ?l17 ?c17 ?k17 ?a18 ?l18 ?c18 ?k18 ?a19 ?l19 ?c19 ?k19 ?a20 ?l20 ?c20 ?k20 ?a21 ?l21 ?c21 ?k21 ?a22 ?l22 ?c22 ?k22 ?a23 ?l23 ?c23 ?k23 ?a24 ?l24 ?c24 ?k24 ?a25 ?l25 ?c25 ?k25 ?a26 ?l26 ?c26 ?k26 ?BV ?vz ?iB ?BW ?qP ?nC ?BX ?qQ ?qR ?tK ?tq
  (case a0=>k_is)
  (case l0=>k_is)
  (case c0=>k_is)
  (case k0=>k_is)
  (case a1=>k_is)
  (case l1=>k_is)
  (case c1=>k_is)
  (case k1=>k_is)
  (case a2=>k_is)
  (case l2=>k_is)
  (case c2=>k_is)
  (case k2=>k_is)
  (case a3=>k_is)
  (case l3=>k_is)
  (case c3=>k_is)
  (case k3=>k_is)
  (case a4=>k_is)
  (case l4=>k_is)
  (case c4=>k_is)
  (case k4=>k_is)
  (case a5=>k_is)
  (case l5=>k_is)
  (case c5=>k_is)
  (case k5=>k_is)
  (case a6=>k_is)
  (case l6=>k_is)
  (case c6=>k_is)
  (case k6=>k_is)
  (case a7=>k_is)
  (case l7=>k_is)
  (case c7=>k_is)
  (case k7=>k_is)
  (case a8=>k_is)
  (case l8=>k_is)
  (case c8=>k_is)
  (case k8=>k_is)
  (case a9=>k_is)
  (case l9=>k_is)
  (case c9=>k_is)
  (case k9=>k_is)
  (case a10=>k_is)
  (case l10=>k_is)
  (case c10=>k_is)
  (case k10=>k_is)
  (case a11=>k_is)
  (case l11=>k_is)
  (case c11=>k_is)
  (case k11=>k_is)
  (case a12=>k_is)
  (case l12=>k_is)
  (case c12=>k_is)
  (case k12=>k_is)
  (case a13=>k_is)
  (case l13=>k_is)
  (case c13=>k_is)
  (case k13=>k_is)
  (case a14=>k_is)
  (case l14=>k_is)
  (case c14=>k_is)
  (case k14=>k_is)
  (case a15=>k_is)
  (case l15=>k_is)
  (case c15=>k_is)
  (case k15=>k_is)
  (case a16=>k_is)
  (case l16=>k_is)
  (case c16=>k_is)
  (case k16=>k_is)
  (case a17=>k_is)
  (case l17=>k_is)
  (case c17=>k_is)
  (case k17=>k_is)
  (case a18=>k_is)
  (case l18=>k_is)
  (case c18=>k_is)
  (case k18=>k_is)
  (case a19=>k_is)
  (case l19=>k_is)
  (case c19=>k_is)
  (case k19=>k_is)
  (case a20=>k_is)
  (case l20=>k_is)
  (case c20=>k_is)
  (case k20=>k_is)
  (case a21=>k_is)
  (case l21=>k_is)
  (case c21=>k_is)
  (case k21=>k_is)
  (case a22=>k_is)
  (case l22=>k_is)
  (case c22=>k_is)
  (case k22=>k_is)
  (case a23=>k_is)
  (case l23=>k_is)
  (case c23=>k_is)
  (case k23=>k_is)
  (case a24=>k_is)
  (case l24=>k_is)
  (case c24=>k_is)
  (case k24=>k_is)
  (case a25=>k_is)
  (case l25=>k_is)
  (case c25=>k_is)
  (case k25=>k_is)
  (case a26=>k_is)
  (case l26=>k_is)
  (case c26=>k_is)
  (case k26=>k_is)
  (case BV=>k_is)
  (case vz=>k_is)
  (case iB=>k_is)
  (case BW=>k_is)
  (case qP=>k_is)
  (case nC=>k_is)
  (case BX=>k_is)
  (case qQ=>k_is)
  (case qR=>k_is)
  (case tK=>k_is)
  (case tq=>first|rfl|decide +kernel|k_is)
#print axioms PySem.Challenge.cw_lostblock_k21_whole_pressed_and_wished_holds
