import PyProof.Rows.All
import Wide.All
import OpenK.AllK
import Wide.FinOn
import Lean
import PyProof.EqAt
import PyProof.EqKinds
import PyProof.TupleCall
import PySem.Challenge.RW_wholeglance_k53_whole_rows_one_behind_th
set_option Elab.async false
set_option linter.all false
set_option maxRecDepth 100000
namespace L2
open PySem PySem.Spec PyProof.Rows
abbrev Key:=Sum Int Str
def xC:Key->Value->Bool
 | .inl k,v=>Value.isInt k v
 | .inr x,v=>Value.isStrOf x v
def GX (w:World):Key->Int
 | .inl k=>hashInt k
 | .inr x=>hashStr w x
theorem cj:∀{k:Key} {v:Value},xC k v=true->(∃i t,k=Sum.inl i/\v=Value.int i t)\/(∃x t,k=Sum.inr x/\v=Value.str x t)
 | .inl i,v,h=>by
  obtain⟨t,e⟩:=Value.isInt_shape (k:=i) (v:=v) h
  exact .inl ⟨i,t,rfl,e⟩
 | .inr x,v,h=>by
  obtain⟨t,e⟩:=Value.isStrOf_shape (x:=x) (v:=v) h
  exact .inr ⟨x,t,rfl,e⟩
theorem AV (a b:Int):decide ((Sum.inl a:Key)=Sum.inl b)=(a == b):=by
 by_cases e:a=b
 . subst e;simp
 . have h:¬(Sum.inl a:Key)=Sum.inl b:=fun q=>e (Sum.inl.inj q)
   rw [decide_eq_false h]
   exact(beq_eq_false_iff_ne.mpr e).symm
theorem AO (a b:Str):decide ((Sum.inr a:Key)=Sum.inr b)=decide (a=b):=by
 by_cases e:a=b
 . subst e;simp
 . have h:¬(Sum.inr a:Key)=Sum.inr b:=fun q=>e (Sum.inr.inj q)
   rw [decide_eq_false h,decide_eq_false e]
theorem AQ (a:Int)(b:Str):decide ((Sum.inl a:Key)=Sum.inr b)=false:=decide_eq_false (fun q=>nomatch q)
theorem CD (a:Str)(b:Int):decide ((Sum.inr a:Key)=Sum.inl b)=false:=decide_eq_false (fun q=>nomatch q)
def lH (prog:Program)(w:World):PySem.KeyKind prog w Key where
 is:=xC
 hash:=GX w
 inj:=fun v a b ha hb=>by
  rcases cj ha with⟨i,t,rfl,rfl⟩ | ⟨x,t,rfl,rfl⟩
  . rcases cj hb with⟨j,u,rfl,e⟩ | ⟨y,u,rfl,e⟩
    . injection e with e1 _;rw [e1]
    . exact nomatch e
  . rcases cj hb with⟨j,u,rfl,e⟩ | ⟨y,u,rfl,e⟩
    . exact nomatch e
    . injection e with e1 _;rw [e1]
 byValue:=fun k v h=>by
  rcases cj h with⟨i,t,rfl,rfl⟩ | ⟨x,t,rfl,rfl⟩<;>rfl
 pyHash:=fun hv h=>by
  rcases cj hv with⟨i,t,rfl,rfl⟩ | ⟨x,t,rfl,rfl⟩
  . exact wpAny_pyHash_int h
  . exact wpAny_pyHash_str h
 eqBool:=fun hu hv h=>by
  rcases cj hu with⟨i,t,rfl,rfl⟩ | ⟨x,t,rfl,rfl⟩
  . rcases cj hv with⟨j,u,rfl,rfl⟩ | ⟨y,u,rfl,rfl⟩
    . rw [AV] at h;exact wpAny_eqBool_int h
    . rw [AQ] at h;exact SeqAt.EqAt.int_str i t y u _ _ _ _ h
  . rcases cj hv with⟨j,u,rfl,rfl⟩ | ⟨y,u,rfl,rfl⟩
    . rw [CD] at h;exact SeqAt.EqAt.str_int x t j u _ _ _ _ h
    . rw [AO] at h;exact wpAny_eqBool_str h
 «strs»:=fun k x t v h=>by
  rcases cj h with⟨i,u,rfl,e⟩ | ⟨y,u,rfl,e⟩
  . exact nomatch e
  . injection e with e1 _
    subst e1
    cases v<;>rfl
inductive V where
 | non | bl (b:Bool) | int (i:Int) | str (x:Str) | byt (b:Array UInt8) | iV (b:UInt64) | ref (a:Addr) | ty (n:String)
 deriving DecidableEq
def RelV:V->Value->Prop
 | .non,u=>u=Value.none
 | .bl b,u=>u=Value.bool b
 | .int i,u=>∃t,u=Value.int i t
 | .str x,u=>∃t,u=Value.str x t
 | .byt b,u=>∃t,u=Value.bytes b t
 | .iV b,u=>∃t,u=Value.float b t
 | .ref a,u=>u=Value.ref a
 | .ty n,u=>u=Value.type n
abbrev Vals:List V->List Value->Prop:=Paired RelV
theorem Vals.length {xs:List V}{us:List Value}(r:Vals xs us):xs.length=us.length:=Paired.length r
theorem Vals.get:∀{xs:List V} {us:List Value} {i:Nat} {x:V},Vals xs us->xs[i]? = some x->∃u,us[i]? = some u/\RelV x u
 | _,_,_,_,.nil,e=>by simp at e
 | _,_,0,_,.cons r _,e=>by simp at e;subst e;exact⟨_,rfl,r⟩
 | _,_,i+1,x,.cons _ t,e=>by
  obtain⟨u,h1,h2⟩:=Vals.get (i:=i) (x:=x) t (by simpa using e)
  exact⟨u,by simpa using h1,h2⟩
theorem Vals.set {x:V}{u:Value}(r:RelV x u):∀{xs:List V} {us:List Value} (i:Nat),Vals xs us->Vals (xs.set i x) (us.set i u)
 | _,_,_,.nil=>.nil
 | _,_,0,.cons _ t=>.cons r t
 | _,_,i+1,.cons q t=>.cons q (Vals.set r i t)
theorem Vals.append:∀{xs ys:List V} {us ws:List Value},Vals xs us->Vals ys ws->Vals (xs++ys) (us++ws)
 | _,_,_,_,.nil,s=>s
 | _,_,_,_,.cons r t,s=>.cons r (Vals.append t s)
theorem Vals.take:∀{xs:List V} {us:List Value} (n:Nat),Vals xs us->Vals (xs.take n) (us.take n)
 | _,_,0,_=>.nil
 | _,_,_+1,.nil=>.nil
 | _,_,n+1,.cons r t=>.cons r (Vals.take n t)
theorem Vals.drop:∀{xs:List V} {us:List Value} (n:Nat),Vals xs us->Vals (xs.drop n) (us.drop n)
 | _,_,0,r=>r
 | _,_,_+1,.nil=>.nil
 | _,_,n+1,.cons _ t=>Vals.drop n t
def Ag:Option V->Option Value->Prop
 | some v,some u=>RelV v u
 | none,none=>True
 | _,_=>False
def KV {κ:Type}:List (κ×V)->List (κ×Value)->Prop:=Paired fun(p:κ×V) (q:κ×Value)=>p.1=q.1/\RelV p.2 q.2
def kV:Key->V
 | .inl i=>.int i
 | .inr x=>.str x
def cN (h:Heap)(a:Addr)(items:Array Value):Prop:=∃o,h.get? a=some o/\o.cls = .type "tuple" /\ (∃n,o.data = .seq items n)/\o.dict=none
theorem cN.t {h:Heap}{a:Addr}{items:Array Value}(p:cN h a items):IsTup h a items:=let⟨o,h1,h2,h3,_⟩:=p;⟨o,h1,h2,h3⟩
theorem cN.new (h:Heap)(its:Array Value):cN (h.push { cls:=.type "tuple",data:=.seq its }) h.objs.size its:=⟨_,Heap.get?_push_size _ rfl,rfl,⟨_,rfl⟩,rfl⟩
inductive HO where
 | lst (xs:List V)
 | tup (xs:List V)
 | dK (kvs:List (Key×V)) | dT (kvs:List (List Key×V))
 | set (S:Int->Bool) (n:Nat)
 | ins (C dx:Addr) (fs:List (Str×V))
 | own (x:Addr)
 | xd (fs:List (Str×V))
 | met (f x:Addr)
 | dj (lo hi:Int)
 | frz (o:Obj) (u:HO)
 | tbl (ps:Array Value)
 | ext (φ:Heap->Prop)
abbrev Hp:=Addr->Option HO
def upd (H:Hp)(a:Addr)(o:HO):Hp:=fun b=>if b=a then some o else H b
theorem aR {H:Hp}{a:Addr}{o:HO}:upd H a o a=some o:=by unfold upd;rw [if_pos rfl]
theorem aJ {H:Hp}{a b:Addr}{o:HO}(h:b≠a):upd H a o b=H b:=by unfold upd;rw [if_neg h]
theorem rE {H:Hp}{a b:Addr}{o u:HO}(h:H a=some o)(h':H b=some u)(d:o≠u):a≠b:=by
 intro e;subst e;rw [h] at h';exact d (Option.some.inj h')
theorem bG {H:Hp}{a b:Addr}{o:HO}(h:H a=some o)(h':H b=none):a≠b:=by
 intro e;subst e;rw [h] at h';cases h'
section
variable (P:Program)(w:World)
def cD (H:Hp)(h:Heap)(a:Addr):HO->Prop
 | .lst xs=>xs.length<=sizeLine /\ ∃(its:List Value) (n:Nat),Vals xs its/\h.get? a=some { cls:=.type "list",data:=.seq its.toArray n }
 | .tup xs=>xs.length<=sizeLine /\ ∃its:List Value,Vals xs its/\cN h a its.toArray
 | .dK kvs=>kvs.length<=sizeLine/\(a == sysModules)=false /\ ∃vs,KV kvs vs/\h.DictOf (lH P w) a vs
 | .dT kvs=>kvs.length<=sizeLine/\(a == sysModules)=false /\ ∃xs:List (List Key×Addr×Value),
  Paired (fun(p:List Key×V) (q:List Key×Addr×Value)=>p.1=q.1/\H q.2.1=some (.tup (p.1.map kV))/\RelV p.2 q.2.2) kvs xs /\
  ∃o es ep,h.get? a=some o/\o.ExactDict/\o.data = .dict es ep/\es.toList=xs.map (entryOfKey (tupleKind (lH P w)))/\(xs.map (·.1)).Nodup
 | .set S n=>h.SetOf (intKind P w) a S n
 | .ins C dx fs=>H dx=some (.own a)/\fs.length<=1000/\dx≠a/\h.get? a=some (PySem.W.instObj C dx) /\
  ∃mA,h.Ns1 dx mA/\(∀f,Ag (fs.lookup f) (mA f))/\PySem.Within mA (fs.map (·.1))
 | .own _=>∃o,h.get? a=some o
 | .xd fs=>∃mA,h.Ns1 a mA /\ ∀f,Ag (fs.lookup f) (mA f)
 | .dj lo hi=>∃t u v,h.get? a=some { cls:=.type "range",data:=.fields #[.int lo t,.int hi u,.int 1 v] }
 | .frz o u=>h.get? a=some o/\cD H h a u
 | .tbl ps=>h.get? a=some { cls:=.none,data:=.fields ps }
 | .met f x=>h.get? a=some (PySem.W.methodObj (.ref f) (.ref x))
 | .ext φ=>φ h/\(∃o,h.get? a=some o) /\ ∀h1 h2:Heap,φ h1->(∀o,h1.get? a=some o->h2.get? a=some o)->φ h2
def dz (H:Hp)(h:Heap):Prop:=∀a o,H a=some o->cD P w H h a o
end
section
variable {P:Program}{w:World}{H H':Hp}{h h':Heap}{a:Addr}{o:HO}
theorem cD.lt (x:cD P w H h a o):a<h.objs.size:=by
 cases o with
 | lst xs=>obtain⟨_,_,_,_,e⟩:=x;exact Heap.lt_size e
 | tup xs=>obtain⟨_,_,_,p⟩:=x;exact p.t.lt
 | dK kvs=>obtain⟨_,_,_,_,o,_,_,e,_⟩:=x;exact Heap.lt_size e
 | dT kvs=>obtain⟨_,_,_,_,o,_,_,e,_⟩:=x;exact Heap.lt_size e
 | set S n=>obtain⟨o,_,_,_,e,_⟩:=x;exact Heap.lt_size e
 | ins C dx fs=>obtain⟨_,_,_,e,_⟩:=x;exact Heap.lt_size e
 | own y=>obtain⟨_,e⟩:=x;exact Heap.lt_size e
 | xd fs=>obtain⟨_,⟨_,_,_,e,_⟩,_⟩:=x;exact Heap.lt_size e
 | dj lo hi=>obtain⟨_,_,_,e⟩:=x;exact Heap.lt_size e
 | frz ob u=>obtain⟨e,_⟩:=x;exact Heap.lt_size e
 | tbl ps=>exact Heap.lt_size (show h.get? a=some _ from x)
 | met f y=>exact Heap.lt_size (show h.get? a=some _ from x)
 | ext φ=>obtain⟨_,⟨_,e⟩,_⟩:=x;exact Heap.lt_size e
theorem Paired.BZ {α β:Type}{F G:α->β->Prop}:∀{l₁:List α} {l₂:List β},Paired F l₁ l₂->(∀a b,F a b->G a b)->Paired G l₁ l₂
 | _,_,.nil,_=>.nil
 | _,_,.cons r t,f=>.cons (f _ _ r) (Paired.BZ t f)
theorem cD.bX (x:cD P w H h a o)(k:∀b u,(b=a\/H b=some (.own a))->h.get? b=some u->h'.get? b=some u)
  (ho:∀b,H b=some (.own a)->H' b=some (.own a)) (ht:∀b xs,H b=some (.tup xs)->H' b=some (.tup xs)):cD P w H' h' a o:=by
 induction o with
 | lst xs=>obtain⟨z,its,n,r,e⟩:=x;exact⟨z,its,n,r,k _ _ (.inl rfl) e⟩
 | tup xs=>obtain⟨z,its,r,ob,e,c⟩:=x;exact⟨z,its,r,ob,k _ _ (.inl rfl) e,c⟩
 | dK kvs=>obtain⟨z,y,vs,r,ob,es,ep,e,c⟩:=x;exact⟨z,y,vs,r,ob,es,ep,k _ _ (.inl rfl) e,c⟩
 | dT kvs =>
  obtain⟨z,y,xs,r,ob,es,ep,e,c⟩:=x
  exact⟨z,y,xs,Paired.BZ r fun p q z=>⟨z.1,ht _ _ z.2.1,z.2.2⟩,ob,es,ep,k _ _ (.inl rfl) e,c⟩
 | set S n=>obtain⟨ob,es,ep,t,e,c⟩:=x;exact⟨ob,es,ep,t,k _ _ (.inl rfl) e,c⟩
 | ins C dx fs =>
  obtain⟨d,z,ne,e,mA,⟨od,es,ep,e2,c⟩,r⟩:=x
  exact⟨ho _ d,z,ne,k _ _ (.inl rfl) e,mA,⟨od,es,ep,k _ _ (.inr d) e2,c⟩,r⟩
 | own y=>obtain⟨ob,e⟩:=x;exact⟨ob,k _ _ (.inl rfl) e⟩
 | xd fs=>obtain⟨mA,⟨od,es,ep,e,c⟩,r⟩:=x;exact⟨mA,⟨od,es,ep,k _ _ (.inl rfl) e,c⟩,r⟩
 | dj lo hi=>obtain⟨t,u,v,e⟩:=x;exact⟨t,u,v,k _ _ (.inl rfl) e⟩
 | frz ob u ih=>obtain⟨e,q⟩:=x;exact⟨k _ _ (.inl rfl) e,ih q⟩
 | tbl ps =>
  have e:h.get? a=some { cls:=.none,data:=.fields ps }:=x
  show h'.get? a=some { cls:=.none,data:=.fields ps }
  exact k a _ (.inl rfl) e
 | met f y =>
  have e:h.get? a=some (PySem.W.methodObj (.ref f) (.ref y)):=x
  show h'.get? a=some (PySem.W.methodObj (.ref f) (.ref y))
  exact k a _ (.inl rfl) e
 | ext φ=>obtain⟨p,⟨o,e⟩,st⟩:=x;exact⟨st _ _ p fun o q=>k _ _ (.inl rfl) q,⟨o,k _ _ (.inl rfl) e⟩,st⟩
theorem dz.lt (x:dz P w H h)(e:H a=some o):a<h.objs.size:=(x a o e).lt
theorem dz.fresh (x:dz P w H h)(e:h.objs.size<=a):H a=none:=by
 cases q:H a with
 | none=>rfl
 | some u=>exact absurd (Nat.lt_of_lt_of_le (x.lt q) e) (Nat.lt_irrefl _)
theorem dz.kept (x:dz P w H h)(k:∀b u,h.get? b=some u->h'.get? b=some u):dz P w H h':=fun a o e =>
 (x a o e).bX (fun b u _ q=>k b u q) (fun _ q=>q) fun _ _ q=>q
theorem dz.laid (x:dz P w H h)(k:∀b u,h.get? b=some u->h'.get? b=some u)(hp:h.objs.size<=a)(new:cD P w (upd H a o) h' a o):dz P w (upd H a o) h':=fun b u e=>by
 have hn:=x.fresh hp
 by_cases hb:b=a
 . subst hb;rw [aR] at e;cases e;exact new
 . rw [aJ hb] at e
   exact(x b u e).bX (fun c v _ q=>k c v q) (fun c q=>by rw [aJ (bG q hn)];exact q) fun c xs q=>by rw [aJ (bG q hn)];exact q
end
def Rd (H:Hp)(a:Addr)(u:HO):Prop:=H a=some u \/ ∃o,H a=some (.frz o u)
theorem Rd.ok {P:Program}{w:World}{H:Hp}{h:Heap}{a:Addr}{u:HO}(r:Rd H a u)(x:dz P w H h):cD P w H h a u:=by
 rcases r with r | ⟨o,r⟩
 . exact x a u r
 . obtain⟨_,q⟩:=x a _ r
   exact q
def xh:Option HO->Prop
 | some (.lst _)=>True
 | some (.dK _)=>True
 | some (.dT _)=>True
 | some (.set _ _)=>True
 | some (.ins _ _ _)=>True
 | some (.ext _)=>True
 | _=>False
section
variable {P:Program}{w:World}{H:Hp}{h h':Heap}{x e:Addr}{o':HO}
theorem dz.write (ok:dz P w H h)(mu:xh (H x))(he:e=x\/H e=some (.own x))(k:∀b u,b≠e->h.get? b=some u->h'.get? b=some u)(heo:∃u,h'.get? e=some u)
   (new:cD P w (upd H x o') h' x o'):dz P w (upd H x o') h':=fun b u q=>by
 have nown:∀c y,H c=some (.own y)->c≠x:=fun c y r z=>by subst z;rw [r] at mu;exact mu
 have ntup:∀c xs,H c=some (.tup xs)->c≠x:=fun c xs r z=>by subst z;rw [r] at mu;exact mu
 by_cases hb:b=x
 . subst hb;rw [aR] at q;cases q;exact new
 . rw [aJ hb] at q
   by_cases hbe:b=e
   . have q':H b=some (.own x):=by
       rcases he with z | z
       . exact absurd (hbe.trans z) hb
       . rw [hbe];exact z
     rw [q] at q';cases q'
     obtain⟨v,hv⟩:=heo
     exact⟨v,by rw [hbe];exact hv⟩
   . refine(ok b u q).bX (fun c v hc r=>k c v ?_ r) (fun c r=>by rw [aJ (nown c b r)];exact r) fun c xs r=>by rw [aJ (ntup c xs r)];exact r
     rcases hc with rfl | hc
     . exact hbe
     . rintro rfl
       rcases he with z | z
       . exact nown c b hc z
       . rw [hc] at z;cases z;exact hb rfl
end
structure Un (fs ex:List Addr)(H H':Hp)(h h':Heap):Prop where
 keep:∀b o,h.get? b=some o->H b=none->b ∉ fs->b ∉ ex->h'.get? b=some o
 slot:∀b o,h.get? b=some o->H b=none->b∈fs->b ∉ ex->∃sl,h'.get? b=some { o with slots:=sl }
 free:∀b o,h.get? b=some o->H b=none->b ∉ ex->H' b=none
 there:∀b o,h.get? b=some o->b ∉ ex->∃o',h'.get? b=some o'
 tups:∀b xs,H b=some (.tup xs)->H' b=some (.tup xs)
 frzs:∀b o u,H b=some (.frz o u)->H' b=some (.frz o u)
 tbls:∀b ps,H b=some (.tbl ps)->∃more,H' b=some (.tbl (ps++more))
section
variable {fs fs' ex ex':List Addr}{H H1 H2:Hp}{h h1 h2 h':Heap}{a x e:Addr}{o:HO}
theorem Un.any (u:Un fs ex H H1 h h1){b:Addr}{ob:Obj}(q:h.get? b=some ob)(n:H b=none)(hx:b ∉ ex):∃sl,h1.get? b=some { ob with slots:=sl }:=by
 by_cases hb:b∈fs
 . exact u.slot b ob q n hb hx
 . exact⟨ob.slots,u.keep b ob q n hb hx⟩
theorem Un.kept (k:∀b u,h.get? b=some u->h'.get? b=some u):Un fs ex H H h h' :=
 ⟨fun b ob q _ _ _=>k b ob q,fun b ob q _ _ _=>⟨ob.slots,k b ob q⟩,fun _ _ _ n _=>n,fun b ob q _=>⟨ob,k b ob q⟩,fun _ _ q=>q,fun _ _ _ q=>q,fun _ ps q=>⟨#[],by rw [q];simp⟩⟩
theorem Un.refl:Un fs ex H H h h:=Un.kept fun _ _ q=>q
theorem Un.laid (k:∀b u,h.get? b=some u->h'.get? b=some u)(hp:h.objs.size<=a)(hn:H a=none):Un fs ex H (upd H a o) h h' where
 keep:=fun b u q _ _ _=>k b u q
 slot:=fun b u q _ _ _=>⟨u.slots,k b u q⟩
 free:=fun b u q n _=>by rw [aJ (Nat.ne_of_lt (Nat.lt_of_lt_of_le (Heap.lt_size q) hp))];exact n
 there:=fun b u q _=>⟨u,k b u q⟩
 tups:=fun b xs q=>by rw [aJ (bG q hn)];exact q
 frzs:=fun b u xs q=>by rw [aJ (bG q hn)];exact q
 tbls:=fun b ps q=>⟨#[],by rw [aJ (bG q hn),q];simp⟩
theorem Un.write (mu:xh (H x))(he:e=x\/H e=some (.own x))(k:∀b u,b≠e->h.get? b=some u->h'.get? b=some u)(heo:∃u,h'.get? e=some u):Un fs ex H (upd H x o) h h':=by
 have hx:∀b,H b=none->b≠x:=fun b n z=>by subst z;rw [n] at mu;exact mu
 have hb:∀b,H b=none->b≠e:=fun b n z=>by
   subst z
   rcases he with r | r
   . exact hx b n r
   . rw [n] at r;cases r
 have hm:∀b u,H b=some u->¬xh (some u)->b≠x:=fun b u q nm z=>by subst z;rw [q] at mu;exact nm mu
 refine⟨fun b u q n _ _=>k b u (hb b n) q,fun b u q n _ _=>⟨u.slots,k b u (hb b n) q⟩,fun b u q n _=>by rw [aJ (hx b n)];exact n,fun b u q _=>?_,
   fun b xs q=>by rw [aJ (hm b _ q fun z=>z)];exact q,fun b u xs q=>by rw [aJ (hm b _ q fun z=>z)];exact q,fun b ps q=>⟨#[],by rw [aJ (hm b _ q fun z=>z),q];simp⟩⟩
 by_cases hbe:b=e
 . subst hbe;exact heo
 . exact⟨u,k b u hbe q⟩
end
def mn (h:Heap)(H:Hp):List Addr:=(List.range h.objs.size).filter fun a=>(H a).isSome
def iy (h:Heap)(H:Hp):Heap:=PySem.W.hideAll h (mn h H)
theorem ub (h:Heap)(H:Hp):(iy h H).objs.size=h.objs.size:=PySem.W.hideAll_size _ _
theorem vK {h:Heap}{H:Hp}{b:Addr}{o:Obj}(e:h.get? b=some o)(n:H b=none):(iy h H).get? b=some o :=
 PySem.W.hideAll_get _ e fun hm=>by
  have q:(H b).isSome=true:=(List.mem_filter.mp hm).2
  rw [n] at q;simp at q
theorem x6 {h:Heap}{H:Hp}{b:Addr}{o:Obj}(e:(iy h H).get? b=some o):h.get? b=some o/\H b=none:=by
 have e':h.get? b=some o:=PySem.W.of_hideAll (mn h H) e
 refine⟨e',?_⟩
 cases q:H b with
 | none=>rfl
 | some x =>
  have hm:b∈mn h H:=List.mem_filter.mpr ⟨List.mem_range.mpr (Heap.lt_size e'),by simp [q]⟩
  have z:(iy h H).get? b=none:=PySem.W.hideAll_none (mn h H) hm
  rw [z] at e;cases e
def y9 (g h:Heap)(L:Addr):List (Addr×Obj):=(List.range h.objs.size).filterMap fun a=>if a=L\/(g.get? a).isSome=true then none else(h.get? a).map fun o=>(a,o)
def rest (g h:Heap)(L d:Addr):List (Addr×Obj):=(y9 g h L).filter fun p=>decide (p.1≠d)
structure Mod (K:PySem.W.Frag)(mg:Str->Option Value)(base:Heap):Prop where
 kin:K.In base
 glob:base.Ns mainGlobals mg
 blt:∃mb,base.Ns builtinsNs mb /\ ∀x:Str,x ≠ "__name__"->mb x=bootBuiltins x
 nolimit:base.NoLimit
structure Cx where
 prog:Program
 w:World
 K:PySem.W.Frag
 mg:Str->Option Value
 base:Heap
 A:Around
 N:List Str
 s₀:Shared
 H₀:Hp
 env:Env
 outer:List Env
 stack:List Env
 ex:List Addr
 fn:Str->Bool
 calm:Bool
 pn:List (Addr×Obj)
 xe:Value->Shared->Prop
def iO (l:List Env):List Addr:=l.filterMap (·.frame)
abbrev Cx.fs (X:Cx):List Addr:=iO X.outer
def C1 (sc:Scope)(x:Str):Prop:=sc.names.lookup x=some .local\/sc.names.lookup x=some .cell\/sc.names.lookup x=some .free
def Loc (sc:Scope)(x:Str):Prop:=sc.names.lookup x=some .local\/sc.names.lookup x=some .cell
def Look (env:Env)(h:Heap)(m:Str->Option Value)(x:Str)(u:Value):Prop :=
 (env.kindOf x=some .local/\m x=some u)\/((env.kindOf x=some .cell\/env.kindOf x=some .free) /\ ∃c,env.cells.lookup x=some c/\h.IsCell c (some u))
structure Cx.Ok (X:Cx):Prop where
 mod:Mod X.K X.mg X.base
 kind:X.env.scope.kind = .function
 glob:X.env.globals=mainGlobals
 blt:X.env.builtins=builtinsNs
 above:X.s₀.heap.objs.size<=X.env.locals
 inj:∀x y c,X.env.cells.lookup x=some c->X.env.cells.lookup y=some c->x=y
 has:∀x,(X.env.kindOf x=some .cell\/X.env.kindOf x=some .free)->∃c,X.env.cells.lookup x=some c
 cab:∀x c,X.fn x=true->X.env.cells.lookup x=some c->X.s₀.heap.objs.size<=c
 hd:X.calm=true->X.A.handled=none
 frames:X.A.frames=some X.stack
 stk:X.stack=X.outer\/(X.stack=X.env::X.outer/\X.env.frame=some X.env.locals)
 exf:∀b∈X.ex,b≠X.env.locals /\ ∀x c,X.env.cells.lookup x=some c->c≠b
 bs:∀b o,X.base.get? b=some o->X.s₀.heap.get? b=some o/\X.H₀ b=none
 bsz:X.base.objs.size<=X.s₀.heap.objs.size
 noex:∀b o,X.base.get? b=some o->b ∉ X.ex
 exfs:∀b∈X.ex,b ∉ X.fs
 gB:X.s₀.heap.FunFrames X.base X.outer
 frf:∀b∈X.fs,X.H₀ b=none
structure Inv (X:Cx)(pins:List (Addr×Obj))(σ:List (Option V))(H:Hp)(s:Shared):Prop where
 ok:X.Ok
 os:s.os=X.s₀.os
 bare:AllBare s.gens
 base:Un X.fs X.ex X.H₀ H X.s₀.heap s.heap
 loc:∃m,s.heap.Ns X.env.locals m /\ ∀(i:Nat) (x:Str) (v:V),X.N[i]? = some x->σ[i]? = some (some v)->C1 X.env.scope x->∃u,RelV v u/\Look X.env s.heap m x u
 cell:∀x c,X.env.cells.lookup x=some c->∃v,s.heap.IsCell c v
 free:H X.env.locals=none
 freeC:∀x c,X.env.cells.lookup x=some c->H c=none
 pin:∀p∈X.pn++pins,s.heap.get? p.1=some p.2/\H p.1=none/\p.1≠X.env.locals/\p.1 ∉ X.fs /\ ∀v,p.2.data ≠ .cell v
 hok:dz X.prog X.w H s.heap
 len:σ.length=X.N.length
section
variable {X:Cx}{pins:List (Addr×Obj)}{σ:List (Option V)}{H H':Hp}{s:Shared}{h':Heap}
theorem Cx.Ok.HZ (ok:X.Ok){b:Addr}{o:Obj}(e:X.base.get? b=some o):b ∉ X.fs:=fun hb=>by
 have:=(ok.gB.mem hb).1
 rw [e] at this;cases this
theorem Inv.bs (I:Inv X pins σ H s):∀b o,X.base.get? b=some o->s.heap.get? b=some o/\H b=none:=fun b o e =>
 ⟨I.base.keep b o (I.ok.bs b o e).1 (I.ok.bs b o e).2 (I.ok.HZ e) (I.ok.noex b o e),I.base.free b o (I.ok.bs b o e).1 (I.ok.bs b o e).2 (I.ok.noex b o e)⟩
theorem Inv.bk (I:Inv X pins σ H s):∀b o,X.base.get? b=some o->s.heap.get? b=some o:=fun b o e=>(I.bs b o e).1
theorem Inv.mod (I:Inv X pins σ H s):Mod X.K X.mg X.base:=I.ok.mod
theorem Inv.fN (I:Inv X pins σ H s):X.K.In s.heap:=I.ok.mod.kin.keeps I.bk
theorem Inv.lt (I:Inv X pins σ H s):X.env.locals<s.heap.objs.size:=let⟨_,hn,_⟩:=I.loc;hn.lt
theorem Inv.sz (I:Inv X pins σ H s):X.s₀.heap.objs.size<=s.heap.objs.size:=Nat.le_trans I.ok.above (Nat.le_of_lt I.lt)
theorem Inv.Ih (I:Inv X pins σ H s){a:Addr}(h:s.heap.objs.size<=a):a ∉ X.fs:=fun hb=>by
 obtain⟨_,o,ho,_⟩:=I.ok.gB.mem hb
 exact absurd (Nat.lt_of_lt_of_le (Heap.lt_size ho) (Nat.le_trans I.sz h)) (Nat.lt_irrefl _)
theorem Inv.nV (I:Inv X pins σ H s):∀x c,X.env.cells.lookup x=some c->c≠X.env.locals:=fun x c e z=>by
 obtain⟨v,o,ho,hd⟩:=I.cell x c e
 obtain⟨m,⟨o',es,ep,ho',hd',_⟩,_⟩:=I.loc
 rw [z,ho'] at ho;cases ho;rw [hd'] at hd;cases hd
theorem Inv.gB (I:Inv X pins σ H s):s.heap.FunFrames X.base X.outer:=by
 have all:∀(l:List Env),(∀b∈iO l,b∈X.fs)->X.s₀.heap.FunFrames X.base l->s.heap.FunFrames X.base l:=by
  intro l
  induction l with
  | nil=>intro _ _;trivial
  | cons env r ih =>
   intro hs hl
   obtain⟨hk,⟨L,o,hf,hn,ho,hd⟩,hr⟩:=hl
   have hL:L∈X.fs:=hs L (by unfold iO;rw [List.filterMap_cons,hf];exact List.mem_cons_self)
   obtain⟨sl,e⟩:=I.base.slot L o ho (I.ok.frf L hL) hL fun z=>I.ok.exfs L z hL
   exact⟨hk,⟨L,_,hf,hn,e,hd⟩,ih (fun b hb=>hs b (by unfold iO;rw [List.filterMap_cons,hf];exact List.mem_cons_of_mem _ hb)) hr⟩
 exact all X.outer (fun _ hb=>hb) I.ok.gB
theorem Inv.stack (I:Inv X pins σ H s):s.heap.FunFrames X.base X.stack:=by
 rcases I.ok.stk with e | ⟨e,hf⟩
 . rw [e];exact I.gB
 . rw [e]
   obtain⟨m,hn,_⟩:=I.loc
   refine .cons (by rw [I.ok.kind];decide) hf hn ?_ I.gB
   exact Heap.get?_none_of_le (Nat.le_trans I.ok.bsz I.ok.above)
theorem Inv.oA (I:Inv X pins σ H s):∀b∈iO X.stack,b∈X.env.locals::X.fs:=fun b hb=>by
 rcases I.ok.stk with e | ⟨e,hf⟩
 . rw [e] at hb;exact List.mem_cons_of_mem _ hb
 . rw [e] at hb
   unfold iO at hb
   rw [List.filterMap_cons,hf] at hb
   exact hb
theorem Inv.pC (I:Inv X pins σ H s):∀b∈iO X.stack,H b=none:=fun b hb=>by
 rcases List.mem_cons.mp (I.oA b hb) with e | hb
 . rw [e];exact I.free
 . obtain⟨_,o,ho,_⟩:=I.ok.gB.mem hb
   exact I.base.free b o ho (I.ok.frf b hb) fun z=>I.ok.exfs b z hb
theorem Inv.step {g':Array GenState}{t':Nat}{d':Drawn}{ch:List Addr}(I:Inv X pins σ H s)
   (hch:∀b∈ch,(b∈X.ex\/X.s₀.heap.objs.size<=b)/\b≠X.env.locals/\(∀x c,X.env.cells.lookup x=some c->c≠b) /\ ∀p∈X.pn++pins,p.1≠b)
   (keep:∀b o,b≠X.env.locals->b ∉ X.fs->b ∉ ch->s.heap.get? b=some o->H b=none->h'.get? b=some o)
   (slot:∀b o,b≠X.env.locals->b∈X.fs->b ∉ ch->s.heap.get? b=some o->H b=none->∃sl,h'.get? b=some { o with slots:=sl }) (free:∀b o,b ∉ ch->s.heap.get? b=some o->H b=none->H' b=none)
   (there:∀b o,b ∉ ch->s.heap.get? b=some o->∃o',h'.get? b=some o')
   (tups:∀b xs,H b=some (.tup xs)->H' b=some (.tup xs)) (frzs:∀b o u,H b=some (.frz o u)->H' b=some (.frz o u)) (tbls:∀b ps,H b=some (.tbl ps)->∃more,H' b=some (.tbl (ps++more)))
   (ns:∀m,s.heap.Ns X.env.locals m->h'.Ns X.env.locals m) (hok:dz X.prog X.w H' h') (hg:AllBare g') :
   Inv X pins σ H' { s with heap:=h',gens:=g',drawn:=d',toks:=t' }:=by
 have neL:∀b o,X.s₀.heap.get? b=some o->b≠X.env.locals:=fun b o e=>Nat.ne_of_lt (Nat.lt_of_lt_of_le (Heap.lt_size e) I.ok.above)
 have neC:∀b o,X.s₀.heap.get? b=some o->b ∉ X.ex->b ∉ ch:=fun b o e hx hb=>by
   rcases (hch b hb).1 with z | z
   . exact hx z
   . exact absurd (Nat.lt_of_lt_of_le (Heap.lt_size e) z) (Nat.lt_irrefl _)
 have cellK:∀x c,X.env.cells.lookup x=some c->∀v,s.heap.IsCell c v->h'.IsCell c v:=fun x c e v ⟨o,ho,hd⟩=>by
   have nch:c ∉ ch:=fun z=>(hch c z).2.2.1 x c e rfl
   by_cases hc:c∈X.fs
   . obtain⟨sl,q⟩:=slot c o (I.nV x c e) hc nch ho (I.freeC x c e)
     exact⟨_,q,hd⟩
   . exact⟨o,keep c o (I.nV x c e) hc nch ho (I.freeC x c e),hd⟩
 refine⟨I.ok,I.os,hg,⟨fun b o e n hb hx=>?_,fun b o e n hb hx=>?_,fun b o e n hx=>?_,fun b o e hx=>?_,fun b xs e=>tups b xs (I.base.tups b xs e),fun b o xs e=>frzs b o xs (I.base.frzs b o xs e),fun b ps e=>?_⟩,?_,fun x c e=>?_,?_,fun x c e=>?_,fun p hp=>?_,hok,I.len⟩
 . exact keep b o (neL b o e) hb (neC b o e hx) (I.base.keep b o e n hb hx) (I.base.free b o e n hx)
 . obtain⟨sl,e1⟩:=I.base.slot b o e n hb hx
   obtain⟨sl',e2⟩:=slot b _ (neL b o e) hb (neC b o e hx) e1 (I.base.free b o e n hx)
   exact⟨sl',e2⟩
 . obtain⟨o',e1⟩:=I.base.there b o e hx
   exact free b o' (neC b o e hx) e1 (I.base.free b o e n hx)
 . obtain⟨o',e1⟩:=I.base.there b o e hx
   exact there b o' (neC b o e hx) e1
 . obtain⟨m1,e1⟩:=I.base.tbls b ps e
   obtain⟨m2,e2⟩:=tbls b _ e1
   exact⟨m1++m2,by rw [e2,Array.append_assoc]⟩
 . obtain⟨m,hn,hl⟩:=I.loc
   refine⟨m,ns m hn,fun i x v e1 e2 e3=>?_⟩
   obtain⟨u,r,l⟩:=hl i x v e1 e2 e3
   refine⟨u,r,?_⟩
   rcases l with l | ⟨k,c,e,z⟩
   . exact .inl l
   . exact .inr ⟨k,c,e,cellK x c e _ z⟩
 . obtain⟨v,z⟩:=I.cell x c e
   exact⟨v,cellK x c e v z⟩
 . obtain⟨m,⟨o,_,_,ho,_⟩,_⟩:=I.loc
   exact free _ o (fun z=>(hch _ z).2.1 rfl) ho I.free
 . obtain⟨v,o,ho,hd⟩:=I.cell x c e
   exact free c o (fun z=>(hch c z).2.2.1 x c e rfl) ho (I.freeC x c e)
 . obtain⟨e,n,ne,nf,d⟩:=I.pin p hp
   have nch:p.1 ∉ ch:=fun z=>(hch p.1 z).2.2.2 p hp rfl
   exact⟨keep p.1 p.2 ne nf nch e n,free p.1 p.2 nch e n,ne,nf,d⟩
theorem Inv.un {t':Nat}(I:Inv X pins σ H s)(u:Un X.fs [] H H' s.heap h')(hok:dz X.prog X.w H' h'):Inv X pins σ H' { s with heap:=h',toks:=t' }:=by
 obtain⟨m,⟨o,es,ep,ho,r⟩,_⟩:=id I.loc
 obtain⟨sl,hL⟩:=u.any ho I.free (by simp)
 exact I.step (g':=s.gens) (d':=s.drawn) (ch:=[]) (fun _ z=>nomatch z) (fun b o _ hb _ e n=>u.keep b o e n hb (by simp)) (fun b o _ hb _ e n=>u.slot b o e n hb (by simp)) (fun b o _ e n=>u.free b o e n (by simp)) (fun b o _ e=>u.there b o e (by simp)) u.tups u.frzs u.tbls (fun m' hm=>by
  obtain⟨o',es',ep',ho',r'⟩:=hm
  rw [ho] at ho';cases ho'
  exact⟨_,es',ep',hL,r'⟩) hok I.bare
theorem Inv.call {g':Array GenState}{t':Nat}{d':Drawn}{ch:List Addr}(I:Inv X pins σ H s)(u:Un (iO X.stack) ch H H' s.heap h')(hok:dz X.prog X.w H' h')(hg:AllBare g')
  (hch:∀b∈ch,(b∈X.ex\/X.s₀.heap.objs.size<=b)/\b≠X.env.locals/\(∀x c,X.env.cells.lookup x=some c->c≠b) /\ ∀p∈X.pn++pins,p.1≠b) :
  Inv X pins σ H' { s with heap:=h',gens:=g',drawn:=d',toks:=t' }:=by
 obtain⟨m,⟨o,es,ep,ho,r⟩,_⟩:=id I.loc
 obtain⟨sl,hL⟩:=u.any ho I.free fun z=>(hch _ z).2.1 rfl
 exact I.step (ch:=ch) hch (fun b o hL hb hc e n=>u.keep b o e n (fun z=>(List.mem_cons.mp (I.oA b z)).elim hL hb) hc) (fun b o _ _ hc e n=>u.any e n hc) (fun b o hc e n=>u.free b o e n hc) (fun b o hc e=>u.there b o e hc) u.tups u.frzs u.tbls (fun m' hm=>by
  obtain⟨o',es',ep',ho',r'⟩:=hm
  rw [ho] at ho';cases ho'
  exact⟨_,es',ep',hL,r'⟩) hok hg
theorem Inv.turned {t':Nat}{it:Addr}(I:Inv X pins σ H s)(k:∀b o,b≠it->s.heap.get? b=some o->h'.get? b=some o)(hn:H it=none)(hL:it≠X.env.locals)
   (h1:it∈X.ex\/X.s₀.heap.objs.size<=it) (h2:∀x c,X.env.cells.lookup x=some c->c≠it) (h3:∀p∈X.pn++pins,p.1≠it):Inv X pins σ H { s with heap:=h',toks:=t' }:=by
 have nit:∀b u,H b=some u->b≠it:=fun b u e z=>by rw [z,hn] at e;cases e
 refine I.step (g':=s.gens) (d':=s.drawn) (ch:=[it]) (fun b hb=>?_) (fun b o _ _ hc e _=>k b o (fun z=>hc (by simp [z])) e) (fun b o _ _ hc e _=>⟨o.slots,k b o (fun z=>hc (by simp [z])) e⟩) (fun _ _ _ _ n=>n)
   (fun b o hc e=>⟨o,k b o (fun z=>hc (by simp [z])) e⟩) (fun _ _ e=>e) (fun _ _ _ e=>e) (fun b ps e=>⟨#[],by rw [e];simp⟩) (fun m hm=>?_) (fun b u e=>?_) I.bare
 . have e:b=it:=by simpa using hb
   subst e
   exact⟨h1,hL,h2,h3⟩
 . obtain⟨o,es,ep,ho,r⟩:=hm
   exact⟨o,es,ep,k _ o (Ne.symm hL) ho,r⟩
 . refine(I.hok b u e).bX (fun c v hc q=>k c v ?_ q) (fun _ q=>q) fun _ _ q=>q
   rcases hc with z | z
   . rw [z];exact nit b u e
   . exact nit c _ z
theorem Inv.tok (I:Inv X pins σ H s)(t:Nat):Inv X pins σ H { s with toks:=t }:=I.un (h':=s.heap) (t':=t) Un.refl I.hok
theorem Inv.kept {t':Nat}(I:Inv X pins σ H s)(k:∀b u,s.heap.get? b=some u->h'.get? b=some u):Inv X pins σ H { s with heap:=h',toks:=t' }:=I.un (Un.kept k) (I.hok.kept k)
theorem Inv.laid {a:Addr}{o:HO}{t':Nat}(I:Inv X pins σ H s)(k:∀b u,s.heap.get? b=some u->h'.get? b=some u)(hp:s.heap.objs.size<=a)(new:cD X.prog X.w (upd H a o) h' a o) :
 Inv X pins σ (upd H a o) { s with heap:=h',toks:=t' }:=I.un (Un.laid k hp (I.hok.fresh hp)) (I.hok.laid k hp new)
theorem Inv.write {x e:Addr}{o:HO}{t':Nat}(I:Inv X pins σ H s)(mu:xh (H x))(he:e=x\/H e=some (.own x))(k:∀b u,b≠e->s.heap.get? b=some u->h'.get? b=some u)(heo:∃u,h'.get? e=some u)
 (new:cD X.prog X.w (upd H x o) h' x o):Inv X pins σ (upd H x o) { s with heap:=h',toks:=t' }:=I.un (Un.write mu he k heo) (I.hok.write mu he k heo new)
theorem Inv.pZ {pins':List (Addr×Obj)}(I:Inv X pins σ H s)(h:∀p∈pins',s.heap.get? p.1=some p.2/\H p.1=none/\p.1≠X.env.locals/\p.1 ∉ X.fs /\ ∀v,p.2.data ≠ .cell v):Inv X pins' σ H s :=
 ⟨I.ok,I.os,I.bare,I.base,I.loc,I.cell,I.free,I.freeC,fun p hp=>(List.mem_append.mp hp).elim (fun z=>I.pin p (List.mem_append_left _ z)) (h p),I.hok,I.len⟩
theorem oQ {N:List Str}(hN:N.Nodup){i j:Nat}{x:Str}(a:N[i]? = some x)(b:N[j]? = some x):i=j:=by
 obtain⟨h1,e1⟩:=List.getElem?_eq_some_iff.mp a
 obtain⟨h2,e2⟩:=List.getElem?_eq_some_iff.mp b
 exact(List.getElem_inj hN).mp (e1.trans e2.symm)
theorem l_ {M:Model}{A:Around}{E:Value->Shared->Prop}{i:Nat}{x:Str}{v:V}{u:Value}{Q:Unit->Shared->Prop}(I:Inv X pins σ H s)(hN:X.N.Nodup)(hi:X.N[i]? = some x)(hx:Loc X.env.scope x)(r:RelV v u)
   (h:∀s',Inv X pins (σ.set i (some v)) H s'->(∃a,Heap.SameBut a s.heap s'.heap/\(a=X.env.locals\/X.env.cells.lookup x=some a))->Q () s') (hf:X.fn x=true\/X.env.scope.names.lookup x=some .local:=by first | exact .inl rfl | exact .inr rfl | assumption):wpAny M A (storeName X.env x u) Q E s:=by
 obtain⟨m,hn,hl⟩:=id I.loc
 have hcls:(X.env.scope.kind == .class||(X.env.scope.kind == .module&&X.env.locals != X.env.globals))=false:=by rw [I.ok.kind];rfl
 have hiσ:i < σ.length:=by rw [I.len];exact(List.getElem?_eq_some_iff.mp hi).1
 have nV:=I.nV
 have tracked:∀{a:Addr} {h':Heap},(∃o,s.heap.get? a=some o/\H a=none)->Heap.SameBut a s.heap h'->dz X.prog X.w H h':=fun {a h'} ha hs b ob e=>by
   obtain⟨_,_,hfree⟩:=ha
   refine(I.hok b ob e).bX (fun c w' hc q=>(hs.2 c ?_).trans q) (fun _ q=>q) fun _ _ q=>q
   rintro rfl
   rcases hc with rfl | hc
   . rw [hfree] at e;cases e
   . rw [hfree] at hc;cases hc
 rcases hx with hk | hk
 . refine wpAny_storeName_local hk hn (fun h' hn' hs=>?_) hcls
   obtain⟨oL,_,_,hoL,_⟩:=id hn
   refine h _ ⟨I.ok,I.os,I.bare,⟨fun b o e n hb hx=>?_,fun b o e n hb hx=>?_,I.base.free,fun b o e hx=>?_,I.base.tups,I.base.frzs,I.base.tbls⟩,⟨_,hn',fun j y v' e1 e2 e3=>?_⟩,fun y c e=>?_,I.free,I.freeC,fun p hp=>?_,tracked ⟨oL,hoL,I.free⟩ hs,by simpa using I.len⟩ ⟨_,hs,.inl rfl⟩
   . exact(hs.2 b (Nat.ne_of_lt (Nat.lt_of_lt_of_le (Heap.lt_size e) I.ok.above))).trans (I.base.keep b o e n hb hx)
   . obtain⟨sl,e1⟩:=I.base.slot b o e n hb hx
     exact⟨sl,(hs.2 b (Nat.ne_of_lt (Nat.lt_of_lt_of_le (Heap.lt_size e) I.ok.above))).trans e1⟩
   . obtain⟨o',e1⟩:=I.base.there b o e hx
     exact⟨o',(hs.2 b (Nat.ne_of_lt (Nat.lt_of_lt_of_le (Heap.lt_size e) I.ok.above))).trans e1⟩
   . by_cases hj:j=i
     . subst hj
       rw [hi] at e1;cases e1
       rw [List.getElem?_set_self hiσ] at e2
       cases e2
       exact⟨u,r,.inl ⟨hk,by simp⟩⟩
     . rw [List.getElem?_set_ne (Ne.symm hj)] at e2
       obtain⟨u',r',q⟩:=hl j y v' e1 e2 e3
       refine⟨u',r',?_⟩
       rcases q with⟨k,e⟩ | ⟨k,c,e,z⟩
       . refine .inl ⟨k,?_⟩
         have:y≠x:=fun e=>hj (oQ hN e1 (e ▸ hi))
         simp [this,e]
       . exact .inr ⟨k,c,e,z.sameBut hs (nV y c e)⟩
   . obtain⟨w',z⟩:=I.cell y c e
     exact⟨w',z.sameBut hs (nV y c e)⟩
   . obtain⟨e,n,ne,nf,d⟩:=I.pin p hp
     exact⟨(hs.2 p.1 ne).trans e,n,ne,nf,d⟩
 . have hfn:X.fn x=true:=by
     rcases hf with z | z
     . exact z
     . rw [z] at hk;cases hk
   obtain⟨c,hc⟩:=I.ok.has x (.inl hk)
   obtain⟨w',z⟩:=I.cell x c hc
   refine wpAny_storeName_cell I.ok.kind hk hc z (fun h' hc' hs=>?_)
   obtain⟨oc,hoc,hocd⟩:=id z
   refine h { s with heap:=h' } ⟨I.ok,I.os,I.bare,⟨fun b o e n hb hx=>?_,fun b o e n hb hx=>?_,I.base.free,fun b o e hx=>?_,I.base.tups,I.base.frzs,I.base.tbls⟩,⟨m,hn.sameBut hs (Ne.symm (nV x c hc)),fun j y v' e1 e2 e3=>?_⟩,fun y c' e=>?_,I.free,I.freeC,fun p hp=>?_,tracked ⟨oc,hoc,I.freeC x c hc⟩ hs,by simpa using I.len⟩ ⟨c,hs,.inr hc⟩
   . exact(hs.2 b (Nat.ne_of_lt (Nat.lt_of_lt_of_le (Heap.lt_size e) (I.ok.cab x c hfn hc)))).trans (I.base.keep b o e n hb hx)
   . obtain⟨sl,e1⟩:=I.base.slot b o e n hb hx
     exact⟨sl,(hs.2 b (Nat.ne_of_lt (Nat.lt_of_lt_of_le (Heap.lt_size e) (I.ok.cab x c hfn hc)))).trans e1⟩
   . obtain⟨o',e1⟩:=I.base.there b o e hx
     exact⟨o',(hs.2 b (Nat.ne_of_lt (Nat.lt_of_lt_of_le (Heap.lt_size e) (I.ok.cab x c hfn hc)))).trans e1⟩
   . by_cases hj:j=i
     . subst hj
       rw [hi] at e1;cases e1
       rw [List.getElem?_set_self hiσ] at e2
       cases e2
       exact⟨u,r,.inr ⟨.inl hk,c,hc,hc'⟩⟩
     . rw [List.getElem?_set_ne (Ne.symm hj)] at e2
       obtain⟨u',r',q⟩:=hl j y v' e1 e2 e3
       refine⟨u',r',?_⟩
       rcases q with q | ⟨k,c',e,z'⟩
       . exact .inl q
       . refine .inr ⟨k,c',e,z'.sameBut hs ?_⟩
         rintro rfl
         exact hj (oQ hN e1 (I.ok.inj _ _ _ e hc ▸ hi))
   . by_cases hcc:c'=c
     . subst hcc;exact⟨_,hc'⟩
     . obtain⟨w2,z2⟩:=I.cell y c' e
       exact⟨w2,z2.sameBut hs hcc⟩
   . obtain⟨e,n,ne,nf,d⟩:=I.pin p hp
     refine⟨(hs.2 p.1 ?_).trans e,n,ne,nf,d⟩
     intro q
     rw [q,hoc] at e
     have q':oc=p.2:=Option.some.inj e
     exact d w' (by rw [<- q'];exact hocd)
theorem eg {M:Model}{A:Around}{E:Value->Shared->Prop}{i:Nat}{x:Str}{v:V}{u:Value}{Q:Unit->Shared->Prop}(I:Inv X pins σ H s)(hN:X.N.Nodup)(hi:X.N[i]? = some x)(hx:Loc X.env.scope x)(r:RelV v u)
  (h:∀s',Inv X pins (σ.set i (some v)) H s'->Q () s') (hf:X.fn x=true\/X.env.scope.names.lookup x=some .local:=by first | exact .inl rfl | exact .inr rfl | assumption):wpAny M A (storeName X.env x u) Q E s :=
 l_ I hN hi hx r (fun s' I' _=>h s' I') hf
theorem Inv.rF {s':Shared}{ch:List Addr}(I:Inv X pins σ H s)(ho:s'.os=s.os)(u:Un (iO X.stack) ch H H' s.heap s'.heap)(hok:dz X.prog X.w H' s'.heap)(hg:AllBare s'.gens)
  (hch:∀b∈ch,(b∈X.ex\/X.s₀.heap.objs.size<=b)/\b≠X.env.locals/\(∀x c,X.env.cells.lookup x=some c->c≠b) /\ ∀p∈X.pn++pins,p.1≠b):Inv X pins σ H' s':=by
 obtain⟨h',g',d',t',o'⟩:=s'
 have e:o'=s.os:=ho
 subst e
 exact I.call (g':=g') (t':=t') (d':=d') u hok hg hch
end
abbrev XK:=Value->Option Addr->Hp->Prop
abbrev St:=List (Option V)
abbrev VK:=V->Hp->Prop
abbrev TE:=St->Hp->VK->Prop
abbrev TT:=St->Hp->(Bool->Hp->Prop)->Prop
abbrev TA:=St->Hp->(List V->Hp->Prop)->Prop
structure Ends where
 nx:St->Hp->Prop
 rt:VK
 bk:St->Hp->Prop:=fun _ _=>False
 ct:St->Hp->Prop:=fun _ _=>False
abbrev TS:=Ends->St->Hp->Prop
def EP (X:Cx)(pins:List (Addr×Obj))(σ:St)(Q:VK)(u:Value)(s':Shared):Prop:=∃v H',Inv X pins σ H' s'/\RelV v u/\Q v H'
def TP (X:Cx)(pins:List (Addr×Obj))(σ:St)(Q:Bool->Hp->Prop)(b:Bool)(s':Shared):Prop:=∃H',Inv X pins σ H' s'/\Q b H'
def AP (X:Cx)(pins:List (Addr×Obj))(σ:St)(Q:List V->Hp->Prop)(us:List Value)(s':Shared):Prop:=∃vs H',Inv X pins σ H' s'/\Vals vs us/\Q vs H'
def SP (X:Cx)(pins:List (Addr×Obj))(D:Ends)(f:Flow)(s':Shared):Prop :=
 match f with
 | .next=>∃σ' H',Inv X pins σ' H' s'/\D.nx σ' H'
 | .brk=>∃σ' H',Inv X pins σ' H' s'/\D.bk σ' H'
 | .cont=>∃σ' H',Inv X pins σ' H' s'/\D.ct σ' H'
 | .ret u=>∃v σ' H',Inv X pins σ' H' s'/\RelV v u/\D.rt v H'
def PE (X:Cx)(e:Expr)(t:TE):Prop :=
 ∀(pins:List (Addr×Obj)) (s:Shared) (σ:St) (H:Hp) (Q:VK),Inv X pins σ H s->t σ H Q->wpAny (model X.prog X.w) X.A (eval e X.env) (EP X pins σ Q) X.xe s
def PT (X:Cx)(e:Expr)(t:TT):Prop :=
 ∀(pins:List (Addr×Obj)) (s:Shared) (σ:St) (H:Hp) (Q:Bool->Hp->Prop),Inv X pins σ H s->t σ H Q->wpAny (model X.prog X.w) X.A (isTrue e X.env (eval e X.env)) (TP X pins σ Q) X.xe s
def PW (X:Cx)(e:Expr)(t:TT):Prop :=
 ∀(whole:Sem Value) (pins:List (Addr×Obj)) (s:Shared) (σ:St) (H:Hp) (Q:Bool->Hp->Prop),Inv X pins σ H s->t σ H Q->wpAny (model X.prog X.w) X.A (isTrue e X.env whole) (TP X pins σ Q) X.xe s
theorem PW.pt {X:Cx}{e:Expr}{t:TT}(h:PW X e t):PT X e t:=h _
def PA (X:Cx)(es:List Expr)(t:TA):Prop :=
 ∀(pos:Pos) (pins:List (Addr×Obj)) (s:Shared) (σ:St) (H:Hp) (Q:List V->Hp->Prop),Inv X pins σ H s->t σ H Q->wpAny (model X.prog X.w) X.A (spliced (backTo pos (starEach es X.env))) (AP X pins σ Q) X.xe s
def PS (X:Cx)(st:Stmt)(t:TS):Prop :=
 ∀(pins:List (Addr×Obj)) (s:Shared) (σ:St) (H:Hp) (D:Ends),Inv X pins σ H s->t D σ H->wpAny (model X.prog X.w) X.A (exec st X.env) (SP X pins D) X.xe s
def eL (X:Cx)(st:List Stmt)(t:TS):Prop :=
 ∀(pins:List (Addr×Obj)) (s:Shared) (σ:St) (H:Hp) (D:Ends),Inv X pins σ H s->t D σ H->wpAny (model X.prog X.w) X.A (execs st X.env) (SP X pins D) X.xe s
theorem aI {α:Type}{t:Sem α}{Q Q':α->Shared->Prop}{M:Model}{A:Around}{E:Value->Shared->Prop}{s:Shared}(h:wpAny M A t Q E s)(hQ:∀a s,Q a s->Q' a s):wpAny M A t Q' E s:=wpAny_mono h hQ fun _ _ x=>x
section
variable {X:Cx}
def GH (i:Nat):TE:=fun σ H Q=>∃v,σ[i]? = some (some v)/\Q v H
def tC (v:V):TE:=fun _ H Q=>Q v H
theorem AM {i:Nat}{x:Str}{pos:Pos}(hN:X.N[i]? = some x)(hv:C1 X.env.scope x)(hd:(x == ("__debug__":Str))=false:=by decide)(hcd:(x == ("__classdict__":Str))=false:=by decide):PE X (.Name x pos) (GH i):=by
 intro pins s σ H Q I h
 obtain⟨v,e,h⟩:=h
 obtain⟨m,hn,hl⟩:=I.loc
 obtain⟨u,r,l⟩:=hl i x v hN e hv
 have fin:EP X pins σ Q u s:=⟨v,H,I,r,h⟩
 rcases l with⟨hk,hm⟩ | ⟨hk,c,hc,hcell⟩
 . exact wpAny_Name (wpAny_loadName_local I.ok.kind hk hn hm fin) hd
 . rcases hk with hk | hk
   . exact wpAny_Name (wpAny_loadName_cell I.ok.kind hk hc hcell fin) hd
   . exact wpAny_Name (wpAny_loadName_free I.ok.kind hk hc hcell fin hcd) hd
theorem zS {i j pos}:PE X (.Constant (.int i) j pos) (tC (.int i)):=fun _ _ _ H _ I h=>wpAny_Constant_int ⟨.int i,H,I.tok _,⟨_,rfl⟩,h⟩
theorem D2 {b j pos}:PE X (.Constant (.bool b) j pos) (tC (.bl b)):=fun _ _ _ H _ I h=>Constant_bool ⟨.bl b,H,I,rfl,h⟩
theorem CM {j pos}:PE X (.Constant .none j pos) (tC .non):=fun _ _ _ H _ I h=>Constant_none ⟨.non,H,I,rfl,h⟩
theorem Av {x j pos}:PE X (.Constant (.str x) j pos) (tC (.str x)):=fun _ _ _ H _ I h=>Calls.Constant_str ⟨.str x,H,I.tok _,⟨_,rfl⟩,h⟩
def Gl (X:Cx)(x:Str):Prop:=X.env.kindOf x=some .globalImplicit
theorem lW {E:Value->Shared->Prop}{pins:List (Addr×Obj)}{s:Shared}{σ:St}{H:Hp}{x:Str}{u:Value}{pos:Pos}{Q:Value->Shared->Prop}(I:Inv X pins σ H s)(hg:Gl X x)(hm:X.mg x=some u)(h:Q u s)
  (hd:(x == ("__debug__":Str))=false:=by decide):wpAny (model X.prog X.w) X.A (eval (.Name x pos) X.env) Q E s :=
 Calls.Name_function_global I.ok.kind hg (Calls.loadGlobal_global (by rw [I.ok.glob];exact I.mod.glob.keeps I.bk) hm h) hd
theorem c_ {E:Value->Shared->Prop}{pins:List (Addr×Obj)}{s:Shared}{σ:St}{H:Hp}{x:Str}{u:Value}{pos:Pos}{Q:Value->Shared->Prop}(I:Inv X pins σ H s)(hg:Gl X x)(hm:X.mg x=none)(hv:bootBuiltins x=some u)(h:Q u s)
  (hn:x ≠ "__name__":=by decide) (hd:(x == ("__debug__":Str))=false:=by decide):wpAny (model X.prog X.w) X.A (eval (.Name x pos) X.env) Q E s:=by
 obtain⟨mb,h1,h2⟩:=I.mod.blt
 exact Calls.Name_function_global I.ok.kind hg (Calls.loadGlobal_builtin (by rw [I.ok.glob];exact I.mod.glob.keeps I.bk) hm (by rw [I.ok.blt];exact h1.keeps I.bk) ((h2 x hn).trans hv) h) hd
theorem p9 {x:Str}{v:V}{u:Value}{pos:Pos}(hg:Gl X x)(hm:X.mg x=some u)(r:RelV v u)(hd:(x == ("__debug__":Str))=false:=by decide):PE X (.Name x pos) (tC v) :=
 fun _ _ _ H _ I h=>lW I hg hm ⟨v,H,I,r,h⟩ hd
theorem yt {x:Str}{v:V}{u:Value}{pos:Pos}(hg:Gl X x)(hm:X.mg x=none)(hv:bootBuiltins x=some u)(r:RelV v u)(hn:x ≠ "__name__":=by decide)(hd:(x == ("__debug__":Str))=false:=by decide):PE X (.Name x pos) (tC v) :=
 fun _ _ _ H _ I h=>c_ I hg hm hv ⟨v,H,I,r,h⟩ hn hd
variable {a b:Expr}{ta tb:TE}{pos:Pos}
def tB (t:TE):TT:=fun σ H Q=>t σ H fun x H1=>∃c,x = .bl c/\Q c H1
variable {tA tB':TT}{rest:List Expr}
def FW (t u:TT):TT:=fun σ H Q=>t σ H fun c H1=>if c=true then u σ H1 Q else Q false H1
def Ju (t u:TT):TT:=fun σ H Q=>t σ H fun c H1=>if c=true then Q true H1 else u σ H1 Q
def HI (t:TT):TT:=fun σ H Q=>t σ H fun c H1=>Q (!c) H1
theorem yD (ha:PT X a tA):PW X (.BoolOp .And [a] pos) tA:=by
 intro wh pins s σ H Q I h
 refine isTrue_and (aI (ha pins s σ H Q I h) fun c s1 e=>?_)
 cases c with
 | true=>exact isTrue_and_nil e
 | false=>exact e
theorem AR (ha:PT X a tA):PW X (.BoolOp .Or [a] pos) tA:=by
 intro wh pins s σ H Q I h
 refine isTrue_or (aI (ha pins s σ H Q I h) fun c s1 e=>?_)
 cases c with
 | false=>exact isTrue_or_nil e
 | true=>exact e
theorem Ai (ha:PT X a tA)(hb:PW X (.BoolOp .And (b::rest) pos) tB'):PW X (.BoolOp .And (a::b::rest) pos) (FW tA tB'):=by
 intro wh pins s σ H Q I h
 refine isTrue_and (aI (ha pins s σ H _ I h) fun c s1 ⟨H1,I1,q1⟩=>?_)
 cases c with
 | true=>exact hb wh pins s1 σ H1 Q I1 q1
 | false=>exact⟨H1,I1,q1⟩
theorem Et (ha:PT X a tA)(hb:PW X (.BoolOp .Or (b::rest) pos) tB'):PW X (.BoolOp .Or (a::b::rest) pos) (Ju tA tB'):=by
 intro wh pins s σ H Q I h
 refine isTrue_or (aI (ha pins s σ H _ I h) fun c s1 ⟨H1,I1,q1⟩=>?_)
 cases c with
 | true=>exact⟨H1,I1,q1⟩
 | false=>exact hb wh pins s1 σ H1 Q I1 q1
theorem B9 (ha:PT X a tA):PT X (.UnaryOp .Not a pos) (HI tA):=by
 intro pins s σ H Q I h
 exact isTrue_not (ha pins s σ H (fun c H1=>Q (!c) H1) I h)
def Ef (ta tb:TE):TE:=fun σ H Q=>ta σ H fun x H1=>∃c,x = .bl c/\if c=true then tb σ H1 Q else Q (.bl false) H1
def GV (ta tb:TE):TE:=fun σ H Q=>ta σ H fun x H1=>∃c,x = .bl c/\if c=true then Q (.bl true) H1 else tb σ H1 Q
def Eg (ta:TE):TE:=fun σ H Q=>ta σ H fun x H1=>∃c,x = .bl c/\Q (.bl (!c)) H1
theorem Bi {op}{t:TE}(h:PE X a t):PE X (.BoolOp op [a] pos) t:=fun pins s σ H Q I hw=>BoolOp_one (h pins s σ H Q I hw)
theorem BW (ha:PE X a ta)(hb:PE X (.BoolOp .And (b::rest) pos) tb):PE X (.BoolOp .And (a::b::rest) pos) (Ef ta tb):=by
 intro pins s σ H Q I h
 refine BoolOp_and (aI (ha pins s σ H _ I h) fun v s1 ⟨x,H1,I1,r1,q1⟩=>?_)
 obtain⟨c,rfl,q1⟩:=q1
 cases r1
 refine wpAny_truthy_bool ?_
 cases c with
 | true=>exact hb pins s1 σ H1 Q I1 q1
 | false=>exact⟨.bl false,H1,I1,rfl,q1⟩
theorem Ez (ha:PE X a ta)(hb:PE X (.BoolOp .Or (b::rest) pos) tb):PE X (.BoolOp .Or (a::b::rest) pos) (GV ta tb):=by
 intro pins s σ H Q I h
 refine BoolOp_or (aI (ha pins s σ H _ I h) fun v s1 ⟨x,H1,I1,r1,q1⟩=>?_)
 obtain⟨c,rfl,q1⟩:=q1
 cases r1
 refine wpAny_truthy_bool ?_
 cases c with
 | false=>exact hb pins s1 σ H1 Q I1 q1
 | true=>exact⟨.bl true,H1,I1,rfl,q1⟩
theorem CV (ha:PE X a ta):PE X (.UnaryOp .Not a pos) (Eg ta):=by
 intro pins s σ H Q I h
 refine UnaryOp_ (aI (ha pins s σ H _ I h) fun v s1 ⟨x,H1,I1,r1,q1⟩=>?_)
 obtain⟨c,rfl,q1⟩:=q1
 cases r1
 exact not_of (wpAny_truthy_bool ⟨.bl (!c),H1,I1,rfl,q1⟩)
def JF (t:TT)(ta tb:TE):TE:=fun σ H Q=>t σ H fun c H1=>if c=true then ta σ H1 Q else tb σ H1 Q
theorem vj {c:Expr}(hc:PT X c tA)(ha:PE X a ta)(hb:PE X b tb):PE X (.IfExp c a b pos) (JF tA ta tb):=by
 intro pins s σ H Q I h
 refine wpAny_IfExp (aI (hc pins s σ H _ I h) fun d s1 ⟨H1,I1,q1⟩=>?_)
 cases d with
 | true=>exact ha pins s1 σ H1 Q I1 q1
 | false=>exact hb pins s1 σ H1 Q I1 q1
end
def cw (K:PySem.W.Frag)(H:Hp)(a:Addr)(xs:List V):Prop :=
 Rd H a (.lst xs) \/
  ∃(o:Obj) (its:Array Value) (n:Nat),K.lookup a=some o/\o.cls = .type "list" /\ o.dict=none/\o.data = .seq its n/\its.size<=sizeLine/\Vals xs its.toList
def cq (K:PySem.W.Frag)(H:Hp)(a:Addr)(xs:List V):Prop :=
 Rd H a (.tup xs) \/
  ∃(o:Obj) (its:Array Value) (n:Nat),K.lookup a=some o/\o.cls = .type "tuple" /\ o.dict=none/\o.data = .seq its n/\its.size<=sizeLine/\Vals xs its.toList
def GS:Value->Option V
 | .none=>some .non
 | .bool b=>some (.bl b)
 | .int i _=>some (.int i)
 | .str x _=>some (.str x)
 | .bytes b _=>some (.byt b)
 | .float b _=>some (.iV b)
 | .ref a=>some (.ref a)
 | .type n=>some (.ty n)
 | _=>none
theorem RelV.abs {x:V}{u:Value}(r:RelV x u):GS u=some x:=by
 cases x with
 | non=>cases r;rfl
 | bl _=>cases r;rfl
 | int _=>obtain⟨t,rfl⟩:=r;rfl
 | str _=>obtain⟨t,rfl⟩:=r;rfl
 | byt _=>obtain⟨t,rfl⟩:=r;rfl
 | iV _=>obtain⟨t,rfl⟩:=r;rfl
 | ref _=>cases r;rfl
 | ty _=>cases r;rfl
theorem RelV.inj {x y:V}{u:Value}(r:RelV x u)(q:RelV y u):x=y:=Option.some.inj (r.abs.symm.trans q.abs)
theorem Vals.inj:∀{xs ys:List V} {us:List Value},Vals xs us->Vals ys us->xs=ys
 | _,_,_,.nil,.nil=>rfl
 | _,_,_,.cons r t,.cons r' t'=>by rw [r.inj r',Vals.inj t t']
section
variable {X:Cx}{pins:List (Addr×Obj)}{σ:St}{H:Hp}{s:Shared}{a:Addr}{xs ys:List V}
theorem cw.of {K:PySem.W.Frag}(h:H a=some (.lst xs)):cw K H a xs:=.inl (.inl h)
theorem Inv.list (I:Inv X pins σ H s)(h:cw X.K H a xs):∃its:List Value,Vals xs its/\PlainL s.heap a its.toArray/\xs.length<=sizeLine:=by
 rcases h with h | ⟨o,its,n,hk,hc,hd,hs,hz,r⟩
 . obtain⟨z,its,n,r,e⟩:=h.ok I.hok
   exact⟨its,r,⟨_,n,e,rfl,rfl,rfl⟩,z⟩
 . refine⟨its.toList,r,⟨o,n,I.fN a o hk,hc,hd,by simpa using hs⟩,?_⟩
   have e:=r.length
   simp only [Array.length_toList] at e
   omega
theorem Inv.Bv (I:Inv X pins σ H s)(h:cq X.K H a xs):∃its:List Value,Vals xs its/\cN s.heap a its.toArray/\xs.length<=sizeLine:=by
 rcases h with h | ⟨o,its,n,hk,hc,hd,hs,hz,r⟩
 . obtain⟨z,its,r,p⟩:=h.ok I.hok
   exact⟨its,r,p,z⟩
 . refine⟨its.toList,r,⟨o,I.fN a o hk,hc,⟨n,by simpa using hs⟩,hd⟩,?_⟩
   have e:=r.length
   simp only [Array.length_toList] at e
   omega
theorem Inv.tuple (I:Inv X pins σ H s)(h:cq X.K H a xs):∃its:List Value,Vals xs its/\IsTup s.heap a its.toArray/\xs.length<=sizeLine :=
 let⟨its,r,p,z⟩:=I.Bv h
 ⟨its,r,p.t,z⟩
theorem Inv.jV (I:Inv X pins σ H s)(h:cw X.K H a xs)(h':cw X.K H a ys):xs=ys:=by
 obtain⟨its,r,⟨o,n,e,_,_,d⟩,_⟩:=I.list h
 obtain⟨its',r',⟨o',n',e',_,_,d'⟩,_⟩:=I.list h'
 rw [e] at e';cases e'
 rw [d] at d'
 injection d' with d1 _
 have:its=its':=by simpa using congrArg Array.toList d1
 subst this
 exact r.inj r'
theorem Inv.fD (I:Inv X pins σ H s)(h:cq X.K H a xs)(h':cq X.K H a ys):xs=ys:=by
 obtain⟨its,r,⟨o,e,_,n,d⟩,_⟩:=I.tuple h
 obtain⟨its',r',⟨o',e',_,n',d'⟩,_⟩:=I.tuple h'
 rw [e] at e';cases e'
 rw [d] at d'
 injection d' with d1 _
 have:its=its':=by simpa using congrArg Array.toList d1
 subst this
 exact r.inj r'
end
abbrev Cx.gM (X:Cx)(E:Value->Shared->Prop):Cx:={ X with xe:=E }
abbrev Cx.qr (X:Cx):Cx:=X.gM fun _ _=>False
theorem Cx.Ok.gM {X:Cx}(ok:X.Ok)(E:Value->Shared->Prop):(X.gM E).Ok :=
 ⟨ok.mod,ok.kind,ok.glob,ok.blt,ok.above,ok.inj,ok.has,ok.cab,ok.hd,ok.frames,ok.stk,ok.exf,ok.bs,ok.bsz,ok.noex,ok.exfs,ok.gB,ok.frf⟩
theorem Cx.Ok.fB {X:Cx}{E:Value->Shared->Prop}(ok:(X.gM E).Ok):X.Ok :=
 ⟨ok.mod,ok.kind,ok.glob,ok.blt,ok.above,ok.inj,ok.has,ok.cab,ok.hd,ok.frames,ok.stk,ok.exf,ok.bs,ok.bsz,ok.noex,ok.exfs,ok.gB,ok.frf⟩
section
variable {X:Cx}{pins:List (Addr×Obj)}{σ:St}{H:Hp}{s:Shared}{E:Value->Shared->Prop}
theorem Inv.gM (I:Inv X pins σ H s)(E:Value->Shared->Prop):Inv (X.gM E) pins σ H s:=⟨I.ok.gM E,I.os,I.bare,I.base,I.loc,I.cell,I.free,I.freeC,I.pin,I.hok,I.len⟩
theorem Inv.fB (I:Inv (X.gM E) pins σ H s):Inv X pins σ H s:=⟨I.ok.fB,I.os,I.bare,I.base,I.loc,I.cell,I.free,I.freeC,I.pin,I.hok,I.len⟩
theorem SP.fB {D:Ends}{f:Flow}{s':Shared}(h:SP (X.gM E) pins D f s'):SP X pins D f s':=by
 cases f with
 | next=>obtain⟨σ',H',I,q⟩:=h;exact⟨σ',H',I.fB,q⟩
 | brk=>obtain⟨σ',H',I,q⟩:=h;exact⟨σ',H',I.fB,q⟩
 | cont=>obtain⟨σ',H',I,q⟩:=h;exact⟨σ',H',I.fB,q⟩
 | ret u=>obtain⟨v,σ',H',I,r,q⟩:=h;exact⟨v,σ',H',I.fB,r,q⟩
theorem eL.qr {st:List Stmt}{t:TS}(h:eL X.qr st t):eL X st t:=fun pins s σ H D I hw =>
 wpAny_mono (h pins s σ H D (I.gM _) hw) (fun _ _ q=>q.fB) fun _ _ z=>False.elim z
end
section
variable {X:Cx}{st:Stmt}{rest:List Stmt}{t u:TS}{e:Expr}{te:TE}{pos:Pos}
def qJ:TS:=fun D σ H=>D.nx σ H
def HG (t u:TS):TS:=fun D σ H=>t { D with nx:=u D } σ H
theorem zP:eL X [] qJ:=fun _ _ σ H _ I h=>wpAny_execs_nil ⟨σ,H,I,h⟩
theorem u5 (h1:PS X st t)(h2:eL X rest u):eL X (st::rest) (HG t u):=by
 intro pins s σ H D I h
 refine wpAny_execs_cons (aI (h1 pins s σ H { D with nx:=u D } I h) fun f s1 q=>?_)
 cases f with
 | next =>
  obtain⟨σ',H',I',q⟩:=q
  exact h2 pins s1 σ' H' D I' q
 | ret v=>exact q
 | brk=>exact q
 | cont=>exact q
theorem ze (h1:PS X st t):eL X [st] t:=by
 intro pins s σ H D I h
 refine wpAny_execs_cons (aI (h1 pins s σ H D I h) fun f s1 q=>?_)
 cases f with
 | next=>exact wpAny_execs_nil q
 | ret v=>exact q
 | brk=>exact q
 | cont=>exact q
theorem yz:PS X (.Pass pos) qJ:=fun _ _ σ H _ I h=>wpAny_Pass ⟨σ,H,I,h⟩
theorem Inv.quiet {pins:List (Addr×Obj)}{σ:St}{H:Hp}{s:Shared}(I:Inv X pins σ H s):interactive X.env=false:=by simp [interactive,I.ok.kind]
theorem zY {x j pos pos'}:PS X (.Expr (.Constant (.str x) j pos) pos') qJ:=fun _ s σ H _ I h=>wpAny_Expr (Calls.Constant_str (show SP X _ _ .next { s with toks:=s.toks+1 } from⟨σ,H,I.tok _,h⟩)) I.quiet
def Eb (te:TE):TS:=fun D σ H=>te σ H fun _ H1=>D.nx σ H1
theorem zm (he:PE X e te)(hs:swapsWith e none pos.line X.env=pure false:=by rfl):PS X (.Expr e pos) (Eb te):=by
 intro pins s σ H D I h
 exact wpAny_Expr_any (aI (he pins s σ H _ I h) fun v s1 ⟨x,H1,I1,r1,q1⟩=>⟨σ,H1,I1,q1⟩) I.quiet hs
def Ir (te:TE):TS:=fun D σ H=>te σ H D.rt
theorem Bh (he:PE X e te):PS X (.Return (some e) pos) (Ir te):=by
 intro pins s σ H D I h
 exact wpAny_Return_some (aI (he pins s σ H _ I h) fun v s1 ⟨x,H1,I1,r1,q1⟩=>⟨x,σ,H1,I1,r1,q1⟩)
def FZ (c:TT)(t u:TS):TS:=fun D σ H=>c σ H fun b H1=>if b=true then t D σ H1 else u D σ H1
theorem El {c:Expr}{a b:List Stmt}{tc:TT}(hc:PT X c tc)(ha:eL X a t)(hb:eL X b u):PS X (.If c a b pos) (FZ tc t u):=by
 intro pins s σ H D I h
 refine wpAny_If (aI (hc pins s σ H _ I h) fun d s1 ⟨H1,I1,q1⟩=>?_)
 cases d with
 | true=>exact ha pins s1 σ H1 D I1 q1
 | false=>exact hb pins s1 σ H1 D I1 q1
end
abbrev TG:=V->St->Hp->(St->Hp->Prop)->Prop
abbrev mH:=List V->St->Hp->(St->Hp->Prop)->Prop
def PG (X:Cx)(target:Expr)(t:TG):Prop :=
 ∀(pins:List (Addr×Obj)) (s:Shared) (σ:St) (H:Hp) (v:V) (u:Value) (Q:St->Hp->Prop),Inv X pins σ H s->RelV v u->t v σ H Q ->
  wpAny (model X.prog X.w) X.A (assign target X.env u) (fun _ s'=>∃σ' H',Inv X pins σ' H' s'/\Q σ' H') X.xe s
def jO (X:Cx)(ts:List Expr)(t:mH):Prop :=
 ∀(pins:List (Addr×Obj)) (s:Shared) (σ:St) (H:Hp) (vs:List V) (us:List Value) (Q:St->Hp->Prop),Inv X pins σ H s->Vals vs us->t vs σ H Q ->
  wpAny (model X.prog X.w) X.A (assignInOrder ((assignEach ts X.env).map (·.2)) us) (fun _ s'=>∃σ' H',Inv X pins σ' H' s'/\Q σ' H') X.xe s
abbrev uT:=V->V->V->Hp->(Hp->Prop)->Prop
def wu (X:Cx)(t:uT):Prop :=
 ∀(pins:List (Addr×Obj)) (s:Shared) (σ:St) (H:Hp) (o i v:V) (ov iv u:Value) (Q:Hp->Prop),Inv X pins σ H s->RelV o ov->RelV i iv->RelV v u->t o i v H Q ->
  wpAny (model X.prog X.w) X.A (setItem ov iv u) (fun _ s'=>∃H',Inv X pins σ H' s'/\Q H') X.xe s
section
variable {X:Cx}{pos:Pos}
def wH (i:Nat):TG:=fun v σ H Q=>Q (σ.set i (some v)) H
theorem yA {i:Nat}{x:Str}(hN:X.N.Nodup)(hi:X.N[i]? = some x)(hx:Loc X.env.scope x)(hf:X.fn x=true\/X.env.scope.names.lookup x=some .local:=by first | exact .inl rfl | exact .inr rfl | assumption):PG X (.Name x pos) (wH i):=by
 intro pins s σ H v u Q I r h
 exact wpAny_assign_Name (eg I hN hi hx r (fun s' I'=>⟨_,H,I',h⟩) hf)
def F5:mH:=fun vs σ H Q=>vs = []/\Q σ H
def Er (t:TG)(u:mH):mH:=fun vs σ H Q=>∃v r,vs=v::r/\t v σ H fun σ' H'=>u r σ' H' Q
theorem yn:jO X [] F5:=by
 intro pins s σ H vs us Q I r h
 obtain⟨e,h⟩:=h
 subst e
 cases r
 exact assignInOrder_nil ⟨σ,H,I,h⟩
theorem vy {e:Expr}{es:List Expr}{t:TG}{u:mH}(h1:PG X e t)(h2:jO X es u)
  (hs:(assignEach (e::es) X.env).map (·.2)=assign e X.env::(assignEach es X.env).map (·.2):=by rfl):jO X (e::es) (Er t u):=by
 intro pins s σ H vs us Q I r h
 obtain⟨v,vr,e1,h⟩:=h
 subst e1
 cases r with
 | cons r rr =>
  rw [hs]
  refine assignInOrder_cons (aI (h1 pins s σ H _ _ _ I r h) fun _ s1 ⟨σ1,H1,I1,q1⟩=>?_)
  exact h2 pins s1 σ1 H1 _ _ Q I1 rr q1
def F2 (K:PySem.W.Frag)(n:Nat)(t:mH):TG:=fun v σ H Q=>∃a xs,v = .ref a/\cq K H a xs/\xs.length=n/\t xs σ H Q
theorem BR {es:List Expr}{k:Nat}{t:mH}{n:Nat}(hc:X.calm=true)(h:jO X es t)
  (hn:(assignEach es X.env).length=n:=by rfl) (hst:(assignEach es X.env).findIdx? (·.1)=none:=by rfl):PG X (.Tuple es k pos) (F2 X.K n t):=by
 intro pins s σ H v u Q I r hw
 obtain⟨a,xs,e1,hq,hl,hw⟩:=hw
 subst e1
 cases r
 obtain⟨its,rv,ht,hz⟩:=I.tuple hq
 refine assign_Tuple_tuple (I.ok.hd hc) ht (by simp [hn,<- hl,rv.length]) hst fun h' hx=>?_
 have I1:Inv X pins σ H { s with heap:=h' }:=I.kept (t':=s.toks) fun b o e=>hx b o (Nat.ne_of_lt (Heap.lt_size e)) e
 exact h pins _ σ H xs _ Q I1 (by simpa using rv) hw
def GB (to ti:TE)(t:uT):TG:=fun v σ H Q=>to σ H fun o H1=>ti σ H1 fun i H2=>t o i v H2 fun H3=>Q σ H3
theorem C5 {o i:Expr}{to ti:TE}{t:uT}(ho:PE X o to)(hi:PE X i ti)(hs:wu X t)
  (ha:∀v,assign (.Subscript o i pos) X.env v=(do
   let ov <- holding [v] (eval o X.env)
   let iv <- holding [v,ov] (eval i X.env)
   standAt pos
   holding [v,ov,iv] (setItem ov iv v)
   release [v,ov,iv] []):=by intro _;rfl):PG X (.Subscript o i pos) (GB to ti t):=by
 intro pins s σ H v u Q I r h
 rw [ha]
 refine wpAny_bind (wpAny_holding (aI (ho pins s σ H _ I h) fun ov s1 ⟨x,H1,I1,r1,q1⟩=>?_))
 refine wpAny_bind (wpAny_holding (aI (hi pins s1 σ H1 _ I1 q1) fun iv s2 ⟨y,H2,I2,r2,q2⟩=>?_))
 refine wpAny_bind (wpAny_standAt (wpAny_bind (wpAny_holding (aI (hs pins s2 σ H2 x y v ov iv u _ I2 r1 r2 r q2) fun _ s3 ⟨H3,I3,q3⟩=>?_))))
 exact wpAny_release ⟨σ,H3,I3,q3⟩
def vU (te:TE)(g:TG):TS:=fun D σ H=>te σ H fun x H1=>g x σ H1 D.nx
theorem A5 {tg e:Expr}{te:TE}{g:TG}(he:PE X e te)(hg:PG X tg g)(hs:swapsWithSole [tg] e pos.line X.env=pure false:=by rfl)(hw:swappedStores [tg] e X.env=pure none:=by rfl)
  (h1:(assignEach [tg] X.env).map (·.2) = [assign tg X.env]:=by rfl):PS X (.Assign [tg] e pos) (vU te g):=by
 intro pins s σ H D I h
 refine wpAny_Assign_stores (aI (he pins s σ H _ I h) fun v s1 ⟨x,H1,I1,r1,q1⟩=>?_) hs hw
 rw [h1]
 exact aI (hg pins s1 σ H1 x v _ I1 r1 q1) fun _ s2 q=>q
theorem Dm {i:Nat}{x:Str}{e:Expr}{te:TE}{pos':Pos}(hN:X.N.Nodup)(hi:X.N[i]? = some x)(hx:Loc X.env.scope x)(he:PE X e te)(hs:swapsWith e (some (.Name x pos')) pos.line X.env=pure false:=by rfl)(hf:X.fn x=true\/X.env.scope.names.lookup x=some .local:=by first | exact .inl rfl | exact .inr rfl | assumption) :
  PS X (.Assign [.Name x pos'] e pos) (vU te (wH i)):=by
 intro pins s σ H D I h
 refine wpAny_Assign_Name (aI (he pins s σ H _ I h) fun v s1 ⟨y,H1,I1,r1,q1⟩=>?_) hs
 exact eg I1 hN hi hx r1 (fun s2 I2=>⟨_,H1,I2,q1⟩) hf
def HH (i j:Nat)(ta:TA):TS:=fun D σ H=>ta σ H fun vs H1=>∃v w,vs = [v,w]/\D.nx ((σ.set i (some v)).set j (some w)) H1
theorem Ba {i j:Nat}{x y:Str}{a b:Expr}{ta:TA}{px py pt:Pos}{kt k2 dN}(hc:X.calm=true)(hN:X.N.Nodup)(hi:X.N[i]? = some x)(hj:X.N[j]? = some y)(hij:i≠j)
  (hx:X.env.scope.names.lookup x=some .local) (hy:X.env.scope.names.lookup y=some .local) (ha:PA X [a,b] ta)
  (hw:swappedStores [.Tuple [.Name x px,.Name y py] kt pt] (.Tuple [a,b] k2 dN) X.env=pure (some [x,y]))
  (hs:swapsWithSole [.Tuple [.Name x px,.Name y py] kt pt] (.Tuple [a,b] k2 dN) pos.line X.env=pure false:=by rfl) :
  PS X (.Assign [.Tuple [.Name x px,.Name y py] kt pt] (.Tuple [a,b] k2 dN) pos) (HH i j ta):=by
 intro pins s σ H D I h
 rw [exec_Assign_arm]
 refine wpAny_bind (wpAny_standAt ?_)
 rw [hs]
 refine wpAny_bind (wpAny_pure ?_)
 rw [if_neg (by decide)]
 refine wpAny_bind (Tuple_ (aI (ha _ pins s σ H _ I h) fun us s1 ⟨vs,H1,I1,r1,q1⟩=>?_))
 obtain⟨v,w,e1,q1⟩:=q1
 subst e1
 obtain⟨u1,u2,rfl,rv,rw'⟩:∃u1 u2,us = [u1,u2]/\RelV v u1/\RelV w u2:=by
  cases r1 with
  | cons p q =>
   cases q with
   | cons p' q' =>
    cases q'
    exact⟨_,_,rfl,p,p'⟩
 refine wpAny_newObj_type ?_ (by show 2<=sizeLine;decide)
 have I2:Inv X pins σ H1 { s1 with heap:=s1.heap.push { cls:=.type "tuple",data:=.seq [u1,u2].toArray } }:=I1.kept (t':=s1.toks) fun b o e=>Heap.get?_push_of_some _ e
 rw [hw]
 refine wpAny_bind (wpAny_pure ?_)
 show wpAny (model X.prog X.w) X.A (do rule "assign.swapped-stores";let items <- unpackItems (.ref s1.heap.objs.size) 2 none;assignInOrder [fun v=>bindName X.env y v,fun v=>bindName X.env x v] items.reverse;pure Flow.next) _ _ _
 refine wpAny_bind (wpAny_rule (wpAny_bind (unpackItems_tuple (items:=#[u1,u2]) (I.ok.hd hc) (IsTup.new s1.heap _) fun h' hx'=>?_)))
 have I3:=I2.kept (h':=h') (t':=s1.toks) fun b o e=>hx' b o (Nat.ne_of_lt (Heap.lt_size e)) e
 show wpAny _ _ (assignInOrder [fun v=>bindName X.env y v,fun v=>bindName X.env x v] [u2,u1] >>= fun _=>pure Flow.next) _ _ _
 refine wpAny_bind (assignInOrder_cons (wpAny_bindName (eg I3 hN hj (.inl hy) rw' (fun s2 I4=>?_) (.inr hy))))
 refine assignInOrder_cons (wpAny_bindName (eg I4 hN hi (.inl hx) rv (fun s3 I5=>assignInOrder_nil (wpAny_pure ?_)) (.inr hx)))
 rw [List.set_comm _ _ (Ne.symm hij)] at I5
 exact⟨_,H1,I5,q1⟩
end
section
variable {X:Cx}{pos:Pos}
def Bl (c:TT)(tb:TS):TS:=fun D σ H=>∃W:Nat->St->Hp->Prop,(∃m,W m σ H) /\ ∀m σ H,W m σ H ->
 c σ H fun b H1=>if b=true then ∃N:St->Hp->Prop,(∀σ' H',N σ' H'->∃m',m' < m/\W m' σ' H')/\tb { D with nx:=N,ct:=N,bk:=D.nx } σ H1 else D.nx σ H1
theorem uX {c:Expr}{body:List Stmt}{tc:TT}{tb:TS}(hp:PassesOwn (model X.prog X.w) X.A X.env X.xe)(hc:PT X c tc)(hb:eL X body tb):PS X (.While c body [] pos) (Bl tc tb):=by
 intro pins s σ H D I h
 obtain⟨W,⟨m0,w0⟩,turn⟩:=h
 refine wpAny_While (codeAny_whileLoop (fun n s'=>∃σ' H',Inv X pins σ' H' s'/\W n σ' H') ?_ m0 ⟨σ,H,I,w0⟩)
 rintro n s1 ⟨σ1,H1,I1,w1⟩
 refine wpAny_passesOwn hp (aI (hc pins s1 σ1 H1 _ I1 (turn n σ1 H1 w1)) fun b s2 ⟨H2,I2,q2⟩=>?_)
 cases b with
 | true =>
  obtain⟨N,hN,q2⟩:=q2
  rw [if_pos rfl]
  refine wpAny_passesOwn hp (aI (hb pins s2 σ1 H2 _ I2 q2) fun f s3 q3=>?_)
  cases f with
  | next =>
   obtain⟨σ3,H3,I3,n3⟩:=q3
   obtain⟨m',hm,w3⟩:=hN σ3 H3 n3
   exact⟨m',hm,σ3,H3,I3,w3⟩
  | cont =>
   obtain⟨σ3,H3,I3,n3⟩:=q3
   obtain⟨m',hm,w3⟩:=hN σ3 H3 n3
   exact⟨m',hm,σ3,H3,I3,w3⟩
  | brk=>exact q3
  | ret v=>exact q3
 | false =>
  rw [if_neg Bool.false_ne_true]
  exact wpAny_execs_nil ⟨σ1,H2,I2,q2⟩
end
structure It where
 go:Nat->Hp->Prop
 yld:Nat->Hp->V->Hp->Prop
 stop:Nat->Hp->Prop
def cE (X:Cx)(pins:List (Addr×Obj))(H:Hp)(b:Addr):Prop :=
 H b=none/\b≠X.env.locals/\b ∉ X.fs/\(b∈X.ex\/X.s₀.heap.objs.size<=b)/\(∀x c,X.env.cells.lookup x=some c->c≠b) /\ ∀p∈X.pn++pins,p.1≠b
theorem Inv.fF {X:Cx}{pins:List (Addr×Obj)}{σ:St}{H H':Hp}{s:Shared}{b:Addr}(I:Inv X pins σ H s)(hb:s.heap.objs.size<=b)(hn:H' b=none):cE X pins H' b:=by
 refine⟨hn,Nat.ne_of_gt (Nat.lt_of_lt_of_le I.lt hb),I.Ih hb,.inr (Nat.le_trans I.sz hb),fun x c e z=>?_,fun p hp z=>?_⟩
 . obtain⟨v,q⟩:=I.cell x c e
   exact absurd (Nat.lt_of_lt_of_le q.lt (by rw [z];exact hb)) (Nat.lt_irrefl _)
 . exact absurd (Nat.lt_of_lt_of_le (Heap.lt_size (I.pin p hp).1) (by rw [z];exact hb)) (Nat.lt_irrefl _)
structure Turn (P:Program)(w:World)(K:PySem.W.Frag)(tg:Expr)(J:It)(fp:List Addr)(it:Addr)(tn:Nat->Heap->Prop):Prop where
 mem:it∈fp
 obj:∀i h,tn i h->∀b∈fp,∃o,h.get? b=some o /\ ∀v,o.data ≠ .cell v
 keep:∀i h h',tn i h->(∀b∈fp,∀o,h.get? b=some o->h'.get? b=some o)->tn i h'
 item:∀(X:Cx),X.prog=P->X.w=w->X.K=K->X.calm=true->∀(i:Nat) (pins:List (Addr×Obj)) (s:Shared) (σ:St) (H:Hp) (E:Value->Shared->Prop),Inv X pins σ H s->(∀b∈fp,cE X pins H b)->tn i s.heap->J.go i H ->
  wpAny (model P w) X.A (pyNext (.ref it)) (fun r s1=>∃u,r=some u /\
   wpAny (model P w) X.A (letOwnedTupleGo tg (.ref it) u) (fun _ s2=>∃x H',Inv X pins σ H' s2/\RelV x u/\J.yld i H x H'/\tn (i+1) s2.heap /\ ∀b∈fp,H' b=none) E s1) E s
 done:∀(X:Cx),X.prog=P->X.w=w->X.K=K->X.calm=true->∀(i:Nat) (pins:List (Addr×Obj)) (s:Shared) (σ:St) (H:Hp) (E:Value->Shared->Prop),Inv X pins σ H s->(∀b∈fp,cE X pins H b)->tn i s.heap->J.stop i H ->
  wpAny (model P w) X.A (pyNext (.ref it)) (fun r s1=>r=none/\Inv X pins σ H s1) E s
 self:∀(A:Around) (i:Nat) (s:Shared) (Q:Value->Shared->Prop) (E:Value->Shared->Prop),tn i s.heap->Q (.ref it) s->wpAny (model P w) A (pyIter (.ref it)) Q E s
abbrev TI:=St->Hp->(It->Hp->Prop)->Prop
def EU (X:Cx)(pins:List (Addr×Obj))(σ:St)(tg:Expr)(R:It->Hp->Prop)(itv:Value)(s2:Shared):Prop :=
 ∃(it:Addr) (fp:List Addr) (tn:Nat->Heap->Prop) (J:It) (H':Hp),itv = .ref it/\Inv X pins σ H' s2/\Turn X.prog X.w X.K tg J fp it tn/\tn 0 s2.heap/\(∀b∈fp,cE X pins H' b)/\R J H'
def PI (X:Cx)(tg iter:Expr)(wi:TI):Prop :=
 ∀(pins:List (Addr×Obj)) (s:Shared) (σ:St) (H:Hp) (R:It->Hp->Prop),Inv X pins σ H s->wi σ H R ->
  wpAny (model X.prog X.w) X.A (eval iter X.env) (fun v s1=>wpAny (model X.prog X.w) X.A (pyIter v) (EU X pins σ tg R) X.xe s1) X.xe s
theorem m8 {M : Model} {A : Around} {E : Value -> Shared -> Prop} {s : Shared} {tg : Expr} {it : Addr} {u : Value} {o : Obj} {n : String} {vs : Array Value} {Q : Unit -> Shared -> Prop} (ho : s.heap.get? it = some o) (hc : o.cls = .type n) (hd : o.data = .fields vs)
   (hn : ["enumerate", "zip", "dict_itemiterator", "dict_reverseitemiterator", "odict_iterator", "itertools.zip_longest", "itertools.pairwise"].contains n = false) (hQ : Q () s) : wpAny M A (letOwnedTupleGo tg (.ref it) u) Q E s := by
 unfold letOwnedTupleGo
 cases tg <;> first
   | exact wpAny_pure hQ
   | (cases u <;> first
       | exact wpAny_pure hQ
       | (refine wpAny_bind (wpAny_load ho ?_)
          rw [hc, hd]
          show wpAny M A (if (["enumerate", "zip", "dict_itemiterator", "dict_reverseitemiterator", "odict_iterator", "itertools.zip_longest", "itertools.pairwise"].contains n && vs[0]? == some (rawInt _)) = true then _ else _) Q E s
          rw [if_neg (by intro h; rw [hn, Bool.false_and] at h; cases h)]
          exact wpAny_pure hQ))
def wZ (K:PySem.W.Frag)(a:Addr):It :=
 ⟨fun i H=>∃xs x,cw K H a xs/\xs[i]? = some x,fun i H x H'=>H'=H /\ ∀xs,cw K H a xs->xs[i]? = some x,fun i H=>∃xs,cw K H a xs/\xs.length<=i⟩
def BC (K:PySem.W.Frag)(a:Addr):It :=
 ⟨fun i H=>∃xs x,cq K H a xs/\xs[i]? = some x,fun i H x H'=>H'=H /\ ∀xs,cq K H a xs->xs[i]? = some x,fun i H=>∃xs,cq K H a xs/\xs.length<=i⟩
def tf (lo:Int)(n:Nat):It:=⟨fun i _=>i<n,fun i H x H'=>H'=H/\x = .int (lo+i),fun i _=>n<=i⟩
theorem t8 {P:Program}{w:World}{K:PySem.W.Frag}{tg:Expr}(a it:Addr):Turn P w K tg (wZ K a) [it] it (fun i h=>h.IsListIter it a i) where
 mem:=by simp
 obj:=fun i h st b hb=>by
  have e:b=it:=by simpa using hb
  subst e
  obtain⟨o,e,c,d⟩:=st
  exact⟨o,e,fun v z=>by rw [d] at z;cases z⟩
 keep:=fun i h h' st k=>st.at fun o e=>k it (by simp) o e
 item:=by
  intro X hP hw hK hc i pins s σ H E I hf st hg
  subst hP hw hK
  obtain⟨xs,x,hq,hx⟩:=hg
  obtain⟨its,rv,p,hz⟩:=I.list hq
  obtain⟨u,hu,ru⟩:=rv.get hx
  obtain⟨f0,f1,f2,f3,f4,f5⟩:=hf it (by simp)
  refine wpAny_pyNext_list_item st p.isList (x:=u) (by simpa using hu) fun h' st' sb=>?_
  have I1:Inv X pins σ H { s with heap:=h' }:=I.turned (t':=s.toks) (fun b o hb e=>(sb.2 b hb).trans e) f0 f1 f3 f4 f5
  obtain⟨o,e,c,d⟩:=id st'
  exact⟨u,rfl,m8 (s:={ s with heap:=h' }) e c d (by decide) ⟨x,H,I1,ru,⟨rfl,fun ys hy=>by rw [I.jV hy hq];exact hx⟩,st',fun b hb=>(hf b hb).1⟩⟩
 done:=by
  intro X hP hw hK hc i pins s σ H E I hf st hg
  subst hP hw hK
  obtain⟨xs,hq,hx⟩:=hg
  obtain⟨its,rv,p,hz⟩:=I.list hq
  obtain⟨f0,f1,f2,f3,f4,f5⟩:=hf it (by simp)
  have hl:=rv.length
  exact wpAny_pyNext_list_end (I.ok.hd hc) st p.isList (by simp;omega) fun h' eb=>⟨rfl,I.turned (t':=s.toks) (fun b o hb e=>eb b o hb e) f0 f1 f3 f4 f5⟩
 self:=fun _ _ _ _ _ st h=>wpAny_pyIter_listiter st h
theorem qO {P:Program}{w:World}{K:PySem.W.Frag}{tg:Expr}(a it:Addr):Turn P w K tg (BC K a) [it] it (fun i h=>h.IsTupleIter it a i) where
 mem:=by simp
 obj:=fun i h st b hb=>by
  have e:b=it:=by simpa using hb
  subst e
  obtain⟨o,e,c,d⟩:=st
  exact⟨o,e,fun v z=>by rw [d] at z;cases z⟩
 keep:=fun i h h' st k=>st.at fun o e=>k it (by simp) o e
 item:=by
  intro X hP hw hK hc i pins s σ H E I hf st hg
  subst hP hw hK
  obtain⟨xs,x,hq,hx⟩:=hg
  obtain⟨its,rv,p,hz⟩:=I.tuple hq
  obtain⟨u,hu,ru⟩:=rv.get hx
  obtain⟨f0,f1,f2,f3,f4,f5⟩:=hf it (by simp)
  refine wpAny_pyNext_tuple_item st (show s.heap.IsTuple a its.toArray from p) (x:=u) (by simpa using hu) fun h' st' sb=>?_
  have I1:Inv X pins σ H { s with heap:=h' }:=I.turned (t':=s.toks) (fun b o hb e=>(sb.2 b hb).trans e) f0 f1 f3 f4 f5
  obtain⟨o,e,c,d⟩:=id st'
  exact⟨u,rfl,m8 (s:={ s with heap:=h' }) e c d (by decide) ⟨x,H,I1,ru,⟨rfl,fun ys hy=>by rw [I.fD hy hq];exact hx⟩,st',fun b hb=>(hf b hb).1⟩⟩
 done:=by
  intro X hP hw hK hc i pins s σ H E I hf st hg
  subst hP hw hK
  obtain⟨xs,hq,hx⟩:=hg
  obtain⟨its,rv,p,hz⟩:=I.tuple hq
  obtain⟨f0,f1,f2,f3,f4,f5⟩:=hf it (by simp)
  have hl:=rv.length
  exact wpAny_pyNext_tuple_end (I.ok.hd hc) st (show s.heap.IsTuple a its.toArray from p) (by simp;omega) fun h' eb=>⟨rfl,I.turned (t':=s.toks) (fun b o hb e=>eb b o hb e) f0 f1 f3 f4 f5⟩
 self:=fun _ _ _ _ _ st h=>wpAny_pyIter_tupleiter st h
theorem qy {P:Program}{w:World}{K:PySem.W.Frag}{tg:Expr}(it:Addr)(lo:Int)(n:Nat):Turn P w K tg (tf lo n) [it] it (fun i h=>IsRangeIter h it (lo+(i:Nat)*1) ((n:Int)-(i:Nat)) 1) where
 mem:=by simp
 obj:=fun i h st b hb=>by
  have e:b=it:=by simpa using hb
  subst e
  exact⟨_,st,fun v z=>by
   have z':Data.fields _=Data.cell v:=z
   cases z'⟩
 keep:=fun i h h' st k=>k it (by simp) _ st
 item:=by
  intro X hP hw hK hc i pins s σ H E I hf st hg
  subst hP hw hK
  obtain⟨f0,f1,f2,f3,f4,f5⟩:=hf it (by simp)
  have W:=Walks.range (prog:=X.prog) (w:=X.w) (I.ok.hd hc) it lo 1 n
  refine W.item i s _ _ hg st fun v h' tk hv st' kk=>?_
  obtain⟨t,rfl⟩:=hv
  have I1:Inv X pins σ H { s with heap:=h',toks:=tk }:=I.turned (fun b o hb e=>kk b o (by simpa using hb) e) f0 f1 f3 f4 f5
  refine⟨_,rfl,m8 (s:={ s with heap:=h',toks:=tk }) (n:="range_iterator") st' rfl rfl (by decide) ⟨.int (lo+i),H,I1,⟨t,?_⟩,⟨rfl,rfl⟩,st',fun b hb=>(hf b hb).1⟩⟩
  rw [Int.mul_one]
 done:=by
  intro X hP hw hK hc i pins s σ H E I hf st hg
  subst hP hw hK
  obtain⟨f0,f1,f2,f3,f4,f5⟩:=hf it (by simp)
  exact wpAny_pyNext_range_end (I.ok.hd hc) st (by have:n<=i:=hg;omega) fun h' eb=>⟨rfl,I.turned (t':=s.toks) (fun b o hb e=>eb b o hb e) f0 f1 f3 f4 f5⟩
 self:=fun _ _ _ _ _ st h=>wpAny_pyIter_rangeiter st h
section
variable {X:Cx}{tg:Expr}
def Eu (K:PySem.W.Frag)(tl:TE):TI:=fun σ H R=>tl σ H fun x H1=>∃a,x = .ref a/\(∃xs,cw K H1 a xs)/\R (wZ K a) H1
def Gf (K:PySem.W.Frag)(tl:TE):TI:=fun σ H R=>tl σ H fun x H1=>∃a,x = .ref a/\(∃xs,cq K H1 a xs)/\R (BC K a) H1
theorem qq {l:Expr}{tl:TE}(hl:PE X l tl):PI X tg l (Eu X.K tl):=by
 intro pins s σ H R I h
 refine aI (hl pins s σ H _ I h) fun v s1 ⟨x,H1,I1,r1,q1⟩=>?_
 obtain⟨a,e,⟨xs,hq⟩,q⟩:=q1
 subst e
 cases r1
 obtain⟨its,rv,p,hz⟩:=I1.list hq
 refine wpAny_pyIter_list p.isList ?_
 refine⟨s1.heap.objs.size,[s1.heap.objs.size],_,_,H1,rfl,I1.kept (t':=s1.toks) fun b o e=>Heap.get?_push_of_some _ e,t8 a _,⟨_,Heap.get?_push_size _ rfl,rfl,rfl⟩,fun b hb=>?_,q⟩
 have e:b=s1.heap.objs.size:=by simpa using hb
 subst e
 exact I1.fF (Nat.le_refl _) (I1.hok.fresh (Nat.le_refl _))
theorem Cr {l:Expr}{tl:TE}(hl:PE X l tl):PI X tg l (Gf X.K tl):=by
 intro pins s σ H R I h
 refine aI (hl pins s σ H _ I h) fun v s1 ⟨x,H1,I1,r1,q1⟩=>?_
 obtain⟨a,e,⟨xs,hq⟩,q⟩:=q1
 subst e
 cases r1
 obtain⟨its,rv,p,hz⟩:=I1.tuple hq
 refine wpAny_pyIter_tuple (show s1.heap.IsTuple a its.toArray from p) ?_
 refine⟨s1.heap.objs.size,[s1.heap.objs.size],_,_,H1,rfl,I1.kept (t':=s1.toks) fun b o e=>Heap.get?_push_of_some _ e,qO a _,⟨_,Heap.get?_push_size _ rfl,rfl,rfl⟩,fun b hb=>?_,q⟩
 have e:b=s1.heap.objs.size:=by simpa using hb
 subst e
 exact I1.fF (Nat.le_refl _) (I1.hok.fresh (Nat.le_refl _))
theorem nW {pins:List (Addr×Obj)}{σ:St}{H:Hp}{s:Shared}{R:It->Hp->Prop}{E:Value->Shared->Prop}{lo hi:Int}{t u v:Tok}{tk:Nat}(I:Inv X pins σ H s)(h1:-(2 ^ 62)<=lo)(h2:lo<2 ^ 62)(h3:-(2 ^ 62)<=hi)(h4:hi<2 ^ 62)
   (q:R (tf lo (hi-lo).toNat) H):wpAny (model X.prog X.w) X.A (pyIter (.ref s.heap.objs.size)) (EU X pins σ tg R) E { s with heap:=s.heap.push { cls:=.type "range",data:=.fields #[.int lo t,.int hi u,.int 1 v] },toks:=tk }:=by
 refine wpAny_pyIter_range (IsRange.new ..) (small_one h1 h2 h3 h4) ?_
 have I1:Inv X pins σ H { s with heap:=s.heap.push { cls:=.type "range",data:=.fields #[.int lo t,.int hi u,.int 1 v] },toks:=tk }:=I.kept fun b o e=>Heap.get?_push_of_some _ e
 refine⟨(s.heap.push { cls:=.type "range",data:=.fields #[.int lo t,.int hi u,.int 1 v] }).objs.size,[(s.heap.push { cls:=.type "range",data:=.fields #[.int lo t,.int hi u,.int 1 v] }).objs.size],_,_,H,rfl,
   I1.kept (t':=tk) fun b o e=>Heap.get?_push_of_some _ e,qy _ lo (hi-lo).toNat,?_,fun b hb=>?_,q⟩
 . have e1:lo+((0:Nat):Int)*1=lo:=by simp
   have e2:(((hi-lo).toNat:Nat):Int)-((0:Nat):Int)=Builtin.Range.rangeSize lo hi 1:=by rw [rangeSize_one];split<;>omega
   show IsRangeIter _ _ (lo+((0:Nat):Int)*1) ((((hi-lo).toNat:Nat):Int)-((0:Nat):Int)) 1
   rw [e1,e2]
   exact Heap.get?_push_size _ rfl
 . have e:b=(s.heap.push { cls:=.type "range",data:=.fields #[.int lo t,.int hi u,.int 1 v] }).objs.size:=by simpa using hb
   subst e
   exact I1.fF (Nat.le_refl _) (I1.hok.fresh (Nat.le_refl _))
def Ec (ta:TA):TI:=fun σ H R=>ta σ H fun vs H1=>∃j:Int,vs = [.int j] /\ -(2 ^ 62)<=j/\j<2 ^ 62/\R (tf 0 j.toNat) H1
def D0 (ta:TA):TI:=fun σ H R=>ta σ H fun vs H1=>∃i j:Int,vs = [.int i,.int j]/\(-(2 ^ 62)<=i/\i<2 ^ 62 /\ -(2 ^ 62)<=j/\j<2 ^ 62)/\R (tf i (j-i).toNat) H1
theorem tU {a:Expr}{ta:TA}{p pos:Pos}(hg:Gl X "range")(hm:X.mg "range" = none)(ha:PA X [a] ta)(hs:starEach [a] X.env = [(false,eval a X.env)]:=by rfl):PI X tg (.Call (.Name "range" p) [a] [] pos) (Ec ta):=by
 intro pins s σ H R I h
 refine Call_ (c_ I hg hm boot_range (PyProof.Rows.callWith_type1 (aI (ha pos pins s σ H _ I h) fun us s1 ⟨vs,H1,I1,r1,q1⟩=>?_) hs rfl))
 obtain⟨j,e,q1,q2,q⟩:=q1
 subst e
 cases r1 with
 | cons r rr =>
  cases rr
  obtain⟨t,rfl⟩:=r
  exact call_range_1 (nW I1 (by omega) (by omega) q1 q2 (by simpa using q))
theorem sJ {a b:Expr}{ta:TA}{p pos:Pos}(hg:Gl X "range")(hm:X.mg "range" = none)(ha:PA X [a,b] ta)(hs:starEach [a,b] X.env = [(false,eval a X.env),(false,eval b X.env)]:=by rfl)(hs2:starEach [b] X.env = [(false,eval b X.env)]:=by rfl) :
  PI X tg (.Call (.Name "range" p) [a,b] [] pos) (D0 ta):=by
 intro pins s σ H R I h
 refine Call_ (c_ I hg hm boot_range (PyProof.Rows.callWith_type1 (aI (ha pos pins s σ H _ I h) fun us s1 ⟨vs,H1,I1,r1,q1⟩=>?_) (by rw [hs,hs2]) (by rw [hs2];rfl)))
 obtain⟨i,j,e,⟨q1,q2,q3,q4⟩,q⟩:=q1
 subst e
 cases r1 with
 | cons r rr =>
  cases rr with
  | cons r' rr =>
   cases rr
   obtain⟨t,rfl⟩:=r
   obtain⟨t',rfl⟩:=r'
   exact call_range_2 (nW I1 q1 q2 q3 q4 q)
def Ii (wi:TI)(g:TG)(tb:TS):TS:=fun D σ H=>wi σ H fun J H1=>∃W:Nat->Nat->St->Hp->Prop,(∃m,W 0 m σ H1) /\ ∀i m σ H,W i m σ H ->
 (J.stop i H/\D.nx σ H)\/(J.go i H /\ ∃N:St->Hp->Prop,(∀σ' H',N σ' H'->∃m',m' < m/\W (i+1) m' σ' H') /\ ∀x H',J.yld i H x H'->g x σ H' fun σ2 H2=>tb { D with nx:=N,ct:=N,bk:=D.nx } σ2 H2)
def gr (fp:List Addr)(h:Heap):List (Addr×Obj):=fp.filterMap fun b=>(h.get? b).map fun o=>(b,o)
theorem cO {fp:List Addr}{h:Heap}{b:Addr}{o:Obj}(hb:b∈fp)(e:h.get? b=some o):(b,o)∈gr fp h:=List.mem_filterMap.mpr ⟨b,hb,by rw [e];rfl⟩
theorem ue {fp:List Addr}{h:Heap}{p:Addr×Obj}(hp:p∈gr fp h):p.1∈fp/\h.get? p.1=some p.2:=by
 obtain⟨b,hb,e⟩:=List.mem_filterMap.mp hp
 cases q:h.get? b with
 | none=>rw [q] at e;cases e
 | some o =>
  rw [q] at e
  have e':(b,o)=p:=Option.some.inj e
  subst e'
  exact⟨hb,q⟩
theorem Inv.pinned {pins:List (Addr×Obj)}{σ:St}{H:Hp}{s:Shared}{fp:List Addr}(I:Inv X pins σ H s)(hf:∀b∈fp,cE X pins H b)(ho:∀b∈fp,∃o,s.heap.get? b=some o /\ ∀v,o.data ≠ .cell v):Inv X (pins++gr fp s.heap) σ H s :=
 I.pZ fun p hp=>(List.mem_append.mp hp).elim (fun z=>I.pin p (List.mem_append_right _ z)) fun z=>by
  obtain⟨hb,e⟩:=ue z
  obtain⟨f0,f1,f2,_⟩:=hf p.1 hb
  obtain⟨o,e',d⟩:=ho p.1 hb
  rw [e] at e';cases e'
  exact⟨e,f0,f1,f2,d⟩
theorem Inv.eZ {pins pl:List (Addr×Obj)}{σ:St}{H:Hp}{s:Shared}(I:Inv X (pins++pl) σ H s):Inv X pins σ H s:=I.pZ fun p hp=>I.pin p (List.mem_append_right _ (List.mem_append_left _ hp))
theorem uy {iter:Expr}{body:List Stmt}{wi:TI}{g:TG}{tb:TS}{pos:Pos}(hp:PassesOwn (model X.prog X.w) X.A X.env X.xe)(hc:X.calm=true)(hi:PI X tg iter wi)(hg:PG X tg g)(hb:eL X body tb)
   (hs:∀x,foldedSetIterable iter X.env x=pure x:=by intro _;rfl):PS X (.For tg iter body [] pos) (Ii wi g tb):=by
 intro pins s σ H D I h
 refine wpAny_For (aI (hi pins s σ H _ I h) fun v s1 h1=>aI h1 fun itv s2 h2=>?_) hs
 obtain⟨it,fp,tn,J,H2,e,I2,T,st2,f2,W,⟨m0,w0⟩,turn⟩:=h2
 subst e
 have stat:∀{H':Hp},(∀b∈fp,H' b=none)->∀b∈fp,cE X pins H' b:=fun hn b hb=>⟨hn b hb,(f2 b hb).2⟩
 refine codeAny_forLoop_any (fun n s'=>∃i σ' H',Inv X pins σ' H' s'/\tn i s'.heap/\(∀b∈fp,H' b=none)/\W i n σ' H') ?_ m0 ⟨0,σ,H2,I2,st2,fun b hb=>(f2 b hb).1,w0⟩
 rintro n s3 ⟨i,σ3,H3,I3,st3,fr3,w3⟩
 rcases turn i n σ3 H3 w3 with⟨stop,qn⟩ | ⟨go,N,hN,step⟩
 . refine wpAny_passesOwn hp (aI (T.done X rfl rfl rfl hc i pins s3 σ3 H3 X.xe I3 (stat fr3) st3 stop) fun r s4 ⟨hr,I4⟩=>?_)
   subst hr
   exact wpAny_execs_nil ⟨σ3,H3,I4,qn⟩
 . refine wpAny_passesOwn hp (aI (T.item X rfl rfl rfl hc i pins s3 σ3 H3 X.xe I3 (stat fr3) st3 go) fun r s4 ⟨u,hr,h4⟩=>?_)
   subst hr
   refine wpAny_passesOwn hp (aI h4 fun _ s5 ⟨x,H5,I5,r5,y5,st5,fr5⟩=>?_)
   have I5':=I5.pinned (stat fr5) (T.obj _ _ st5)
   refine wpAny_passesOwn hp (aI (hg _ s5 σ3 H5 x u _ I5' r5 (step x H5 y5)) fun _ s6 ⟨σ6,H6,I6,q6⟩=>?_)
   refine wpAny_passesOwn hp (aI (hb _ s6 σ6 H6 _ I6 q6) fun f s7 q7=>?_)
   have again:∀{σ7:St} {H7:Hp},Inv X (pins++gr fp s5.heap) σ7 H7 s7->N σ7 H7->∃m,m<n /\ ∃i σ' H',Inv X pins σ' H' s7/\tn i s7.heap/\(∀b∈fp,H' b=none)/\W i m σ' H':=fun {σ7 H7} I7 n7=>by
    obtain⟨m',hm,w7⟩:=hN σ7 H7 n7
    refine⟨m',hm,i+1,σ7,H7,I7.eZ,T.keep _ _ _ st5 fun b hb o e=>(I7.pin (b,o) (List.mem_append_right _ (List.mem_append_right _ (cO hb e)))).1,fun b hb=>?_,w7⟩
    obtain⟨o,e,d⟩:=T.obj _ _ st5 b hb
    exact(I7.pin (b,o) (List.mem_append_right _ (List.mem_append_right _ (cO hb e)))).2.1
   cases f with
   | next=>obtain⟨σ7,H7,I7,n7⟩:=q7;exact again I7 n7
   | cont=>obtain⟨σ7,H7,I7,n7⟩:=q7;exact again I7 n7
   | brk=>obtain⟨σ7,H7,I7,q7⟩:=q7;exact⟨σ7,H7,I7.eZ,q7⟩
   | ret v=>obtain⟨x7,σ7,H7,I7,r7,q7⟩:=q7;exact⟨x7,σ7,H7,I7.eZ,r7,q7⟩
end
abbrev R2:=V->V->Hp->VK->Prop
def aT (X:Cx)(f:Value->Value->Sem Value)(r:R2):Prop :=
 ∀(pins:List (Addr×Obj)) (s:Shared) (σ:St) (H:Hp) (x y:V) (v u:Value) (Q:VK),Inv X pins σ H s->RelV x v->RelV y u->r x y H Q ->
  wpAny (model X.prog X.w) X.A (f v u) (EP X pins σ Q) X.xe s
def sQ (X:Cx)(f:Value->Sem Value)(r:V->Hp->VK->Prop):Prop :=
 ∀(pins:List (Addr×Obj)) (s:Shared) (σ:St) (H:Hp) (x:V) (v:Value) (Q:VK),Inv X pins σ H s->RelV x v->r x H Q ->
  wpAny (model X.prog X.w) X.A (f v) (EP X pins σ Q) X.xe s
def ck (X:Cx)(f:Value)(r:List V->Hp->VK->Prop):Prop :=
 ∀(pins:List (Addr×Obj)) (s:Shared) (σ:St) (H:Hp) (xs:List V) (us:List Value) (Q:VK),Inv X pins σ H s->Vals xs us->r xs H Q ->
  wpAny (model X.prog X.w) X.A (call f us) (EP X pins σ Q) X.xe s
def Ho (X:Cx)(r:V->Hp->(Bool->Hp->Prop)->Prop):Prop :=
 ∀(pins:List (Addr×Obj)) (s:Shared) (σ:St) (H:Hp) (x:V) (v:Value) (Q:Bool->Hp->Prop),Inv X pins σ H s->RelV x v->r x H Q ->
  wpAny (model X.prog X.w) X.A (truthy v) (TP X pins σ Q) X.xe s
def sV (r:R2)(ta tb:TE):TE:=fun σ H Q=>ta σ H fun x H1=>tb σ H1 fun y H2=>r x y H2 Q
def J_ (r:V->Hp->VK->Prop)(ta:TE):TE:=fun σ H Q=>ta σ H fun x H1=>r x H1 Q
def rI (C:Int->Int->Prop)(g:Int->Int->V):R2:=fun x y H Q=>∃i j,x = .int i/\y = .int j/\C i j/\Q (g i j) H
def iK (g:Int->Int->V):R2:=fun x y H Q=>∃i j,x = .int i/\y = .int j/\Q (g i j) H
def rU (g:Int->V):V->Hp->VK->Prop:=fun x H Q=>∃i,x = .int i/\Q (g i) H
section
variable {X:Cx}{a b c:Expr}{ta tb tc:TE}{pos:Pos}
theorem vh (ha:PE X a ta)(hb:PE X b tb){pins:List (Addr×Obj)}{s:Shared}{σ:St}{H:Hp}{R:V->V->Hp->Prop}(I:Inv X pins σ H s)
  (h:ta σ H fun x H1=>tb σ H1 fun y H2=>R x y H2) {Q:Value->Shared->Prop} {f:Value->Value->Sem Value}
  (hf:∀v u s2 x y H2,Inv X pins σ H2 s2->RelV x v->RelV y u->R x y H2->wpAny (model X.prog X.w) X.A (f v u) Q X.xe s2) :
  wpAny (model X.prog X.w) X.A (eval a X.env) (fun v s₁=>wpAny (model X.prog X.w) X.A (eval b X.env) (fun u s₂=>wpAny (model X.prog X.w) X.A (f v u) Q X.xe s₂) X.xe s₁) X.xe s:=by
 refine aI (ha pins s σ H _ I h) fun v s1 ⟨x,H1,I1,r1,q1⟩=>?_
 refine aI (hb pins s1 σ H1 _ I1 q1) fun u s2 ⟨y,H2,I2,r2,q2⟩=>?_
 exact hf v u s2 x y H2 I2 r1 r2 q2
theorem DL {op:Operator}{r:R2}(ho:aT X (binaryOp op) r)(ha:PE X a ta)(hb:PE X b tb):PE X (.BinOp a op b pos) (sV r ta tb):=by
 intro pins s σ H Q I h
 exact wpAny_BinOp (vh ha hb I h fun v u s2 x y H2 I2 rx ry q=>ho pins s2 σ H2 x y v u Q I2 rx ry q)
theorem DF {op:UnaryOp}{r:V->Hp->VK->Prop}(ho:sQ X (unaryOp op) r)(ha:PE X a ta):PE X (.UnaryOp op a pos) (J_ r ta):=by
 intro pins s σ H Q I h
 exact UnaryOp_ (aI (ha pins s σ H _ I h) fun v s1 ⟨x,H1,I1,r1,q1⟩=>ho pins s1 σ H1 x v Q I1 r1 q1)
theorem sL {f:Value->Value->Sem Value}{C:Int->Int->Prop}{g:Int->Int->Int}
  (rule:∀(i j:Int) (t u:Tok) (s:Shared) (Q:Value->Shared->Prop) (E:Value->Shared->Prop),C i j->Q (.int (g i j) s.toks) { s with toks:=s.toks+1 }->wpAny (model X.prog X.w) X.A (f (.int i t) (.int j u)) Q E s) :
  aT X f (rI C fun i j=>.int (g i j)):=by
 intro pins s σ H x y v u Q I rx ry h
 obtain⟨i,j,rfl,rfl,hc,q⟩:=h
 obtain⟨t,rfl⟩:=rx
 obtain⟨t',rfl⟩:=ry
 exact rule i j t t' s _ _ hc ⟨.int (g i j),H,I.tok _,⟨_,rfl⟩,q⟩
theorem sj {f:Value->Value->Sem Value}{g:Int->Int->Int}
  (rule:∀(i j:Int) (t u:Tok) (s:Shared) (Q:Value->Shared->Prop) (E:Value->Shared->Prop),Q (.int (g i j) s.toks) { s with toks:=s.toks+1 }->wpAny (model X.prog X.w) X.A (f (.int i t) (.int j u)) Q E s) :
  aT X f (iK fun i j=>.int (g i j)):=by
 intro pins s σ H x y v u Q I rx ry h
 obtain⟨i,j,rfl,rfl,q⟩:=h
 obtain⟨t,rfl⟩:=rx
 obtain⟨t',rfl⟩:=ry
 exact rule i j t t' s _ _ ⟨.int (g i j),H,I.tok _,⟨_,rfl⟩,q⟩
theorem qx {f:Value->Value->Sem Value}{g:Int->Int->Bool}
  (rule:∀(i j:Int) (t u:Tok) (s:Shared) (Q:Value->Shared->Prop) (E:Value->Shared->Prop),Q (.bool (g i j)) s->wpAny (model X.prog X.w) X.A (f (.int i t) (.int j u)) Q E s) :
  aT X f (iK fun i j=>.bl (g i j)):=by
 intro pins s σ H x y v u Q I rx ry h
 obtain⟨i,j,rfl,rfl,q⟩:=h
 obtain⟨t,rfl⟩:=rx
 obtain⟨t',rfl⟩:=ry
 exact rule i j t t' s _ _ ⟨.bl (g i j),H,I,rfl,q⟩
def HL (i j:Int):Prop:=0<j/\j<1073741824
def BP (i j:Int):Prop:=0<=j/\j<=1000000/\i.natAbs<2 ^ 64
def uR (i j:Int):Prop:=(-(2 ^ 64)<i/\i<2 ^ 64)\/(-(2 ^ 64)<j/\j<2 ^ 64)
theorem uR.ok {i j:Int}(h:uR i j):IntMulOk i j:=by
 rcases h with⟨h1,h2⟩ | ⟨h1,h2⟩
 . exact .of_left (intBits_le_64 h1 h2)
 . exact .of_right (intBits_le_64 h1 h2)
theorem Ax:aT X (binaryOp .Add) (iK fun i j=>.int (i+j)):=sj fun _ _ _ _ _ _ _ q=>add_int q
theorem Ac:aT X (binaryOp .Sub) (iK fun i j=>.int (i-j)):=sj fun _ _ _ _ _ _ _ q=>sub_int q
theorem Cn:aT X (binaryOp .Mult) (rI uR fun i j=>.int (i*j)):=sL fun _ _ _ _ _ _ _ hc q=>mul_int q hc.ok
theorem y0:aT X (binaryOp .FloorDiv) (rI HL fun i j=>.int (i / j)):=sL fun i j _ _ _ _ _ hc q=>by
 have h1:(0:Int)<j:=hc.1
 have h2:j<1073741824:=hc.2
 exact floordiv_int (by omega) (by rw [Int.fdiv_eq_ediv_of_nonneg i (by omega)];exact q) (.inl (PyProof.noPylong_small (by omega)))
theorem BU:aT X (binaryOp .Mod) (rI (fun _ j=>0<j) fun i j=>.int (i % j)):=sL fun i j _ _ _ _ _ hc q=>by
 have h1:(0:Int)<j:=hc
 exact mod_int' (by omega) (by rw [Int.fmod_eq_emod_of_nonneg i (by omega)];exact q)
theorem Cb:aT X (binaryOp .Pow) (rI BP fun i j=>.int (i ^ j.toNat)):=sL fun _ _ _ _ _ _ _ hc q=>pow_int_small hc.1 hc.2.1 hc.2.2 q
theorem AN:aT X (binaryOp .LShift) (rI BP fun i j=>.int (i*2 ^ j.toNat)):=sL fun _ _ _ _ _ _ _ hc q=>lshift_int_small hc.1 hc.2.1 hc.2.2 q
theorem C_:aT X (binaryOp .BitAnd) (iK fun i j=>.int (Builtin.bitAnd i j)):=sj fun _ _ _ _ _ _ _ q=>and_int q
theorem Eo:aT X (binaryOp .BitOr) (iK fun i j=>.int (Builtin.bitOr i j)):=sj fun _ _ _ _ _ _ _ q=>or_int q
theorem JG {f:Value->Sem Value}{g:Int->Int}
  (rule:∀(i:Int) (t:Tok) (s:Shared) (Q:Value->Shared->Prop) (E:Value->Shared->Prop),Q (.int (g i) s.toks) { s with toks:=s.toks+1 }->wpAny (model X.prog X.w) X.A (f (.int i t)) Q E s) :
  sQ X f (rU fun i=>.int (g i)):=by
 intro pins s σ H x v Q I rx h
 obtain⟨i,rfl,q⟩:=h
 obtain⟨t,rfl⟩:=rx
 exact rule i t s _ _ ⟨.int (g i),H,I.tok _,⟨_,rfl⟩,q⟩
theorem A6:sQ X (unaryOp .USub) (rU fun i=>.int (-i)):=JG fun _ _ _ _ _ q=>neg_int q
end
section
variable {X:Cx}{a b c:Expr}{ta tb tc:TE}{pos:Pos}
theorem ud {pins:List (Addr×Obj)}{σ:St}{H:Hp}{s:Shared}{Q:VK}{k k':Bool}(I:Inv X pins σ H s)(q:Q (.bl k) H)(e:k=k'):EP X pins σ Q (.bool k') s:=by
 subst e
 exact⟨.bl k,H,I,rfl,q⟩
theorem DR:aT X (compareOp .Lt) (iK fun i j=>.bl (decide (i<j))):=qx fun _ _ _ _ _ _ _ q=>lt_int q
theorem EF:aT X (compareOp .LtE) (iK fun i j=>.bl (decide (i<=j))):=qx fun _ _ _ _ _ _ _ q=>le_int q
theorem EB:aT X (compareOp .Gt) (iK fun i j=>.bl (decide (j<i))):=qx fun _ _ _ _ _ _ _ q=>gt_int q
theorem Ea:aT X (compareOp .GtE) (iK fun i j=>.bl (decide (j<=i))):=qx fun _ _ _ _ _ _ _ q=>ge_int q
theorem z9:aT X (compareOp .Is) (fun x y H Q=>y = .non/\Q (.bl (decide (x = .non))) H):=by
 intro pins s σ H x y v u Q I rx ry h
 obtain⟨rfl,q⟩:=h
 cases ry
 refine is_none_gen (ud I q ?_)
 cases x<;>first
  | (cases rx;rfl)
  | (obtain⟨t,rfl⟩:=rx;rfl)
theorem yW:aT X (compareOp .IsNot) (fun x y H Q=>y = .non/\Q (.bl (!decide (x = .non))) H):=by
 intro pins s σ H x y v u Q I rx ry h
 obtain⟨rfl,q⟩:=h
 cases ry
 refine isnot_none_gen (ud I q ?_)
 cases x<;>first
  | (cases rx;rfl)
  | (obtain⟨t,rfl⟩:=rx;rfl)
theorem yo {op:CmpOp}{r:R2}(ho:aT X (compareOp op) r)(ha:PE X a ta)(hb:PE X b tb)(hm:behindInMarks op b=false):PE X (.Compare a [op] [b] pos) (sV r ta tb):=by
 intro pins s σ H Q I h
 exact wpAny_Compare1 (vh ha hb I h fun v u s2 x y H2 I2 rx ry q=>ho pins s2 σ H2 x y v u Q I2 rx ry q) hm
def kN (t:TE):TT:=fun σ H Q=>t σ H fun x H'=>∃k,x = .bl k/\Q k H'
theorem zt {op:CmpOp}{r:R2}(ho:aT X (compareOp op) r)(ha:PE X a ta)(hb:PE X b tb)(hm:behindInMarks op b=false):PT X (.Compare a [op] [b] pos) (kN (sV r ta tb)):=by
 intro pins s σ H Q I h
 refine wpAny_isTrue_Compare1 (aI (ha pins s σ H _ I h) fun v s1 ⟨x,H1,I1,r1,q1⟩=>aI (hb pins s1 σ H1 _ I1 q1) fun u s2 ⟨y,H2,I2,r2,q2⟩ =>
  aI (ho pins s2 σ H2 x y v u _ I2 r1 r2 q2) fun c s3 ⟨z,H3,I3,r3,k,e,q3⟩=>?_) hm
 subst e
 cases r3
 exact wpAny_truthy_bool ⟨H3,I3,q3⟩
def nL (r r':R2)(ta tb tc:TE):TE:=fun σ H Q=>ta σ H fun x H1=>tb σ H1 fun y H2=>r x y H2 fun z H3=>∃k,z = .bl k /\
 (if k=true then tc σ H3 fun w' H4=>r' y w' H4 Q else Q (.bl false) H3)
theorem vm {op op':CmpOp}{r r':R2}(ho:aT X (compareOp op) r)(ho':aT X (compareOp op') r')(ha:PE X a ta)(hb:PE X b tb)(hc:PE X c tc)
  (hm:lastMarks [op,op'] [b,c]=false:=by with_unfolding_all rfl):PE X (.Compare a [op,op'] [b,c] pos) (nL r r' ta tb tc):=by
 intro pins s σ H Q I h
 refine Compare_chain (aI (ha pins s σ H _ I h) fun v s1 ⟨x,H1,I1,r1,q1⟩=>chain_link (aI (hb pins s1 σ H1 _ I1 q1) fun u s2 ⟨y,H2,I2,r2,q2⟩ =>
  aI (ho pins s2 σ H2 x y v u _ I2 r1 r2 q2) fun d s3 ⟨z,H3,I3,r3,k,e,q3⟩=>?_)) hm
 subst e
 cases r3
 refine wpAny_truthy_bool ?_
 cases k with
 | false=>exact ite_ff ⟨.bl false,H3,I3,rfl,q3⟩
 | true=>exact ite_tt (chain_last (aI (hc pins s3 σ H3 _ I3 q3) fun w' s4 ⟨z',H4,I4,r4,q4⟩=>ho' pins s4 σ H4 y z' u w' Q I4 r2 r4 q4))
theorem vO {op op':CmpOp}{r r':R2}(ho:aT X (compareOp op) r)(ho':aT X (compareOp op') r')(ha:PE X a ta)(hb:PE X b tb)(hc:PE X c tc)
  (hm:lastMarks [op,op'] [b,c]=false:=by with_unfolding_all rfl):PT X (.Compare a [op,op'] [b,c] pos) (kN (nL r r' ta tb tc)):=by
 intro pins s σ H Q I h
 refine isTrue_chain (aI (ha pins s σ H _ I h) fun v s1 ⟨x,H1,I1,r1,q1⟩=>test_link (aI (hb pins s1 σ H1 _ I1 q1) fun u s2 ⟨y,H2,I2,r2,q2⟩ =>
  aI (ho pins s2 σ H2 x y v u _ I2 r1 r2 q2) fun d s3 ⟨z,H3,I3,r3,k,e,q3⟩=>?_)) hm
 subst e
 cases r3
 refine wpAny_truthy_bool ?_
 cases k with
 | false =>
  obtain⟨k',e',q'⟩:=q3
  cases e'
  exact ite_ff ⟨H3,I3,q'⟩
 | true =>
  refine ite_tt (test_last (aI (hc pins s3 σ H3 _ I3 q3) fun w' s4 ⟨z',H4,I4,r4,q4⟩=>aI (ho' pins s4 σ H4 y z' u w' _ I4 r2 r4 q4) fun d' s5 ⟨z2,H5,I5,r5,k2,e2,q5⟩=>?_))
  subst e2
  cases r5
  exact wpAny_truthy_bool ⟨H5,I5,q5⟩
def vJ (K:PySem.W.Frag)(x:V)(H:Hp)(k:Bool):Prop :=
 match x with
 | .non=>k=false
 | .bl b=>k=b
 | .int i=>k=(i != 0)
 | .str y=>y.length<=sizeLine/\k=((y.length:Int) != 0)
 | .byt y=>y.size<=sizeLine/\k=((y.size:Int) != 0)
 | .ref p=>(∃xs,cw K H p xs/\k = !xs.isEmpty)\/(∃xs,cq K H p xs/\k = !xs.isEmpty) \/ ∃kvs,H p=some (.dK kvs)/\k = !kvs.isEmpty
 | _=>False
theorem qB {κ:Type}{kvs:List (κ×V)}{vs:List (κ×Value)}(r:KV kvs vs):(!vs.isEmpty) = !kvs.isEmpty:=by
 cases r<;>rfl
theorem kT {xs:List V}{its:List Value}(r:Vals xs its):(!its.toArray.isEmpty) = !xs.isEmpty:=by
 cases r<;>simp
theorem hV:(sizeLine:Nat)<2 ^ 63:=by rw [sizeLine_eq];decide
theorem z_:Ho X (fun x H Q=>∃k,vJ X.K x H k/\Q k H):=by
 intro pins s σ H x v Q I rx h
 obtain⟨k,e,q⟩:=h
 have hl:=hV
 have hs:sizeLine=16777216:=sizeLine_eq
 cases x with
 | non =>
  cases rx
  have e':k=false:=e
  subst e'
  exact truthy_none ⟨H,I,q⟩
 | bl b =>
  cases rx
  have e':k=b:=e
  subst e'
  exact wpAny_truthy_bool ⟨H,I,q⟩
 | int i =>
  obtain⟨t,rfl⟩:=rx
  have e':k=(i != 0):=e
  subst e'
  exact PySem.P.truthy_int ⟨H,I,q⟩
 | str y =>
  obtain⟨t,rfl⟩:=rx
  obtain⟨hy,e'⟩:y.length<=sizeLine/\k=((y.length:Int) != 0):=e
  subst e'
  exact PySem.P.truthy_str (by omega) ⟨H,I.tok _,q⟩
 | byt y =>
  obtain⟨t,rfl⟩:=rx
  obtain⟨hy,e'⟩:y.size<=sizeLine/\k=((y.size:Int) != 0):=e
  subst e'
  exact PySem.W.truthy_bytes (by omega) ⟨H,I.tok _,q⟩
 | ref p =>
  cases rx
  have e':(∃xs,cw X.K H p xs/\k = !xs.isEmpty)\/(∃xs,cq X.K H p xs/\k = !xs.isEmpty) \/ ∃kvs,H p=some (.dK kvs)/\k = !kvs.isEmpty:=e
  rcases e' with⟨xs,hx,e'⟩ | ⟨xs,hx,e'⟩ | ⟨kvs,hx,e'⟩
  . subst e'
    obtain⟨its,r,pl,hz⟩:=I.list hx
    have hlen:=r.length
    exact wpAny_truthy_list pl.isList (by simp only [List.size_toArray];omega) ⟨H,I.tok _,by rw [kT r];exact q⟩
  . subst e'
    obtain⟨its,r,pl,hz⟩:=I.tuple hx
    have hlen:=r.length
    exact truthy_tuple pl (by simp only [List.size_toArray];omega) ⟨H,I.tok _,by rw [kT r];exact q⟩
  . subst e'
    obtain⟨hz,hS,vs,r,m⟩:kvs.length<=sizeLine/\(p == sysModules)=false /\ ∃vs,KV kvs vs/\s.heap.DictOf (lH X.prog X.w) p vs:=I.hok p _ hx
    have hlen:kvs.length=vs.length:=Paired.length r
    exact wpAny_truthy_dict hS m (by omega) ⟨H,I.tok _,by rw [qB r];exact q⟩
 | _=>exact(show False from e).elim
theorem wm (ha:PE X a ta)(he:∀whole,isTrue a X.env whole=(do let v <- whole;standAt a.pos;holding [v] (truthy v))) :
  PT X a (fun σ H Q=>ta σ H fun x H'=>∃k,vJ X.K x H' k/\Q k H'):=by
 intro pins s σ H Q I h
 exact isTrue_plain (aI (ha pins s σ H _ I h) fun v s1 ⟨x,H1,I1,r1,q1⟩=>z_ pins s1 σ H1 x v Q I1 r1 q1) (he _)
theorem qN:aT X (binaryOp .Add) (fun x y H Q=>∃i j,x = .str i/\y = .str j/\i.length+j.length<=sizeLine/\Q (.str (i++j)) H):=by
 intro pins s σ H x y v u Q I rx ry h
 obtain⟨i,j,rfl,rfl,hz,q⟩:=h
 obtain⟨t,rfl⟩:=rx
 obtain⟨t',rfl⟩:=ry
 exact add_str (fun t' tk=>⟨.str (i++j),H,I.tok _,⟨_,rfl⟩,q⟩) hz
theorem vals1 {x:V}{us:List Value}(r:Vals [x] us):∃u,us = [u]/\RelV x u:=by
 cases r with
 | cons r1 r2=>cases r2;exact⟨_,rfl,r1⟩
theorem vals2 {x y:V}{us:List Value}(r:Vals [x,y] us):∃u w',us = [u,w']/\RelV x u/\RelV y w':=by
 cases r with
 | cons r1 r2 =>
  cases r2 with
  | cons r3 r4=>cases r4;exact⟨_,_,rfl,r1,r3⟩
theorem uF (hc:X.calm=true):ck X (.builtin "max") (fun xs H Q=>∃i j,xs = [.int i,.int j]/\Q (.int (if j>i then j else i)) H):=by
 intro pins s σ H xs us Q I r h
 obtain⟨i,j,rfl,q⟩:=h
 obtain⟨u,w',rfl,⟨t,rfl⟩,⟨t',rfl⟩⟩:=vals2 r
 refine max_two_ints (I.ok.hd hc) fun h' tk k=>⟨_,H,I.kept k,?_,q⟩
 by_cases hj:j>i
 . rw [if_pos hj,if_pos hj];exact⟨_,rfl⟩
 . rw [if_neg hj,if_neg hj];exact⟨_,rfl⟩
theorem tN (hc:X.calm=true):ck X (.builtin "min") (fun xs H Q=>∃i j,xs = [.int i,.int j]/\Q (.int (if j<i then j else i)) H):=by
 intro pins s σ H xs us Q I r h
 obtain⟨i,j,rfl,q⟩:=h
 obtain⟨u,w',rfl,⟨t,rfl⟩,⟨t',rfl⟩⟩:=vals2 r
 refine min_two_ints (I.ok.hd hc) fun h' tk k=>⟨_,H,I.kept k,?_,q⟩
 by_cases hj:j<i
 . rw [if_pos hj,if_pos hj];exact⟨_,rfl⟩
 . rw [if_neg hj,if_neg hj];exact⟨_,rfl⟩
theorem ma:ck X (.type "int") (fun xs H Q=>(∃i,xs = [.int i]/\Q (.int i) H) \/ ∃k,xs = [.bl k]/\Q (.int (if k then 1 else 0)) H):=by
 intro pins s σ H xs us Q I r h
 rcases h with⟨i,rfl,q⟩ | ⟨k,rfl,q⟩
 . obtain⟨u,rfl,t,rfl⟩:=vals1 r
   exact call_int_int ⟨.int i,H,I,⟨_,rfl⟩,q⟩
 . obtain⟨u,rfl,r1⟩:=vals1 r
   cases r1
   exact call_int_bool ⟨.int (if k then 1 else 0),H,I.tok _,⟨_,rfl⟩,q⟩
end
structure Kf (h:Heap)(x dx C:Addr)(mA:Str->Option Value):Prop where
 obj:h.get? x=some (PySem.W.instObj C dx)
 ns:h.Ns1 dx mA
 ne:dx≠x
structure JK (K:PySem.W.Frag)(C:Addr):Prop where
 pg:PySem.W.plainGet K C Str.empty=true
 hd:PySem.W.hasDictIn K C=true
 po:PySem.W.plainOver K C=true
 sa:PySem.W.findIn K (.ref C) "__setattr__" = some (some (.builtin "object.__setattr__"))
structure Kh (K:PySem.W.Frag)(C:Addr)(f:Str)(v:V)(u:Value):Prop where
 at_:PySem.W.findIn K (.ref C) f=some (some u)
 rel:RelV v u
 get:PySem.W.specialIn K u "__get__" = some none
 cp:PySem.W.copiedNames.contains f=false
structure Meth (K:PySem.W.Frag)(C:Addr)(m:Str)(f:Addr):Prop where
 at_:PySem.W.findIn K (.ref C) m=some (some (.ref f))
 fn:PySem.W.isFn K (.ref f)=true
 kp:PySem.W.keepIn K (.ref f)=true
section
variable {X:Cx}{pins:List (Addr×Obj)}{σ:St}{H:Hp}{s:Shared}{A:Around}{E:Value->Shared->Prop}{Q:Value->Shared->Prop}{c:Value}{b:Bool}
inductive f_ (K:PySem.W.Frag)(H:Hp):V->Value->Prop where
 | non:f_ K H .non (.type "NoneType")
 | bl (x:Bool):f_ K H (.bl x) (.type "bool")
 | int (i:Int):f_ K H (.int i) (.type "int")
 | str (x:Str):f_ K H (.str x) (.type "str")
 | iV (x:UInt64):f_ K H (.iV x) (.type "float")
 | lst {a:Addr} {xs:List V} (e:H a=some (.lst xs)):f_ K H (.ref a) (.type "list")
 | frz {a:Addr} {o:Obj} {xs:List V} (e:H a=some (.frz o (.lst xs))):f_ K H (.ref a) (.type "list")
 | tup {a:Addr} {xs:List V} (e:H a=some (.tup xs)):f_ K H (.ref a) (.type "tuple")
 | dK {a:Addr} {kvs:List (Key×V)} (e:H a=some (.dK kvs)):f_ K H (.ref a) (.type "dict")
 | dT {a:Addr} {kvs:List (List Key×V)} (e:H a=some (.dT kvs)):f_ K H (.ref a) (.type "dict")
 | ins {a C dx:Addr} {fs:List (Str×V)} (e:H a=some (.ins C dx fs)) (cl:JK K C) (ha:PySem.W.findIn K (.ref C) "__class__" = some (some (.builtin "object.__class__")))
  (hn:PySem.W.specialIn K (.builtin "object.__class__") "__get__" = some (some (.builtin "getset_descriptor.__get__"))) (htk:PySem.W.takesIn K (.builtin "object.__class__")=some true)
  (hm:PySem.W.mroIn K C (.type "object")=some true):f_ K H (.ref a) (.ref C)
end
structure aC (k:Nat)(A:Around):Prop where
 hd:A.handled=none
 dp:A.depth+3*k+5<recursionLimit
 un:A.units+16*k+200<cLine
 gd:A.guards=some []
theorem aC.deeper {k:Nat}{A:Around}(r:aC (k+1) A)(env:Env):aC k (A.deeper env) :=
 ⟨r.hd,by have:=r.dp;show A.depth+1+3*k+5<_;omega,by have:=r.un;show A.units+3+16*k+200<_;omega,by first | exact r.gd | (simp [Around.deeper];exact r.gd)⟩
theorem aC.depth {k:Nat}{A:Around}(r:aC k A):A.depth<recursionLimit:=by have:=r.dp;omega
theorem aC.units {k:Nat}{A:Around}(r:aC k A):A.units+64<cLine:=by have:=r.un;omega
def A7:TA:=fun _ H Q=>Q [] H
def Ej (ta:TE)(tr:TA):TA:=fun σ H Q=>ta σ H fun x H1=>tr σ H1 fun xs H2=>Q (x::xs) H2
section
variable {X:Cx}{e:Expr}{es:List Expr}{te:TE}{t:TA}{pos:Pos}
theorem jf:PA X [] A7:=fun _ _ _ _ H Q I h=>Calls.spliced_nil ⟨[],H,I,.nil,h⟩
theorem e_ (ha:PE X e te)(hr:PA X es t)(hs:starEach (e::es) X.env=(false,eval e X.env)::starEach es X.env:=by rfl):PA X (e::es) (Ej te t):=by
 intro pos pins s σ H Q I h
 rw [hs]
 show wpAny _ _ (spliced ((false,eval e X.env)::backTo pos (starEach es X.env))) _ _ s
 refine Calls.spliced_cons (aI (ha pins s σ H _ I h) fun u s1 ⟨x,H1,I1,r1,q1⟩=>?_)
 exact aI (hr pos pins s1 σ H1 _ I1 q1) fun us s2 ⟨xs,H2,I2,r2,q2⟩=>⟨x::xs,H2,I2,.cons r1 r2,q2⟩
def FR (t:TA):TE:=fun σ H Q=>t σ H fun xs H1=>xs.length<=sizeLine /\ ∀p,H1 p=none->Q (.ref p) (upd H1 p (.tup xs))
def HB (t:TA):TE:=fun σ H Q=>t σ H fun xs H1=>xs.length<=sizeLine /\ ∀p,H1 p=none->Q (.ref p) (upd H1 p (.lst xs))
theorem Bj {x1}(h:PA X es t):PE X (.Tuple es x1 pos) (FR t):=by
 intro pins s σ H Q I hq
 refine wpAny_Tuple_spliced (aI (h pos pins s σ H _ I hq) fun us s1 ⟨xs,H1,I1,r,z,q⟩=>⟨by rw [<- r.length];exact z,?_⟩)
 have hf:H1 s1.heap.objs.size=none:=I1.hok.fresh (Nat.le_refl _)
 refine⟨.ref s1.heap.objs.size,upd H1 s1.heap.objs.size (.tup xs),I1.laid (t':=s1.toks) (fun b u e=>Heap.get?_push_of_some _ e) (Nat.le_refl _) ?_,rfl,q _ hf⟩
 exact⟨z,us,r,⟨_,Heap.get?_push_size _ rfl,rfl,⟨_,rfl⟩,rfl⟩⟩
theorem uC (h:PA X es t):PE X (.List es pos) (HB t):=by
 intro pins s σ H Q I hq
 refine wpAny_List_spliced (aI (h pos pins s σ H _ I hq) fun us s1 ⟨xs,H1,I1,r,z,q⟩=>⟨by rw [<- r.length];exact z,?_⟩)
 have hf:H1 s1.heap.objs.size=none:=I1.hok.fresh (Nat.le_refl _)
 refine⟨.ref s1.heap.objs.size,upd H1 s1.heap.objs.size (.lst xs),I1.laid (t':=s1.toks) (fun b u e=>Heap.get?_push_of_some _ e) (Nat.le_refl _) ?_,rfl,q _ hf⟩
 exact⟨z,us,0,r,Heap.get?_push_size _ rfl⟩
end
abbrev Sp:=List V->Hp->VK->XK->Prop
abbrev iP:=List Env->Hp->Shared->XK->Value->Shared->Prop
structure rT (P:Program)(w:World)(K:PySem.W.Frag)(mg:Str->Option Value)(base:Heap)(A:Around)(outer:List Env)(s:Shared)(H:Hp):Prop where
 frames:A.frames=some outer
 mod:Mod K mg base
 bs:∀b o,base.get? b=some o->s.heap.get? b=some o/\H b=none
 bsz:base.objs.size<=s.heap.objs.size
 gB:s.heap.FunFrames base outer
 frf:∀b∈iO outer,H b=none
 hok:dz P w H s.heap
 bare:AllBare s.gens
def CE (outer:List Env)(P:Program)(w:World)(H:Hp)(s:Shared)(Q:VK)(u:Value)(s':Shared):Prop :=
 ∃v H',s'.os=s.os/\AllBare s'.gens/\Un (iO outer) [] H H' s.heap s'.heap/\dz P w H' s'.heap/\RelV v u/\Q v H'
def CR (CX:iP)(outer:List Env)(P:Program)(w:World)(H:Hp)(s:Shared)(Q:VK)(E:XK)(r:Result)(s':Shared):Prop :=
 match r with
 | .ok (.ret u)=>CE outer P w H s Q u s'
 | .ok _=>False
 | .error e=>CX outer H s E e s'
structure cL (P:Program)(w:World)(K:PySem.W.Frag)(mg:Str->Option Value)(base:Heap)(CX:iP)(k:Nat)(f:Addr)(fd:FuncData)(ps:List Str)(sp:Sp):Prop where
 len:∀vs H Q E,sp vs H Q E->vs.length=ps.length
 run:∀(A:Around) (outer:List Env) (s:Shared) (H:Hp) (args:Args) (us:List Value) (vs:List V) (Q:VK) (E:XK),aC k A->rT P w K mg base A outer s H->BindsTo s fd args (ps.zip us)->Vals vs us->sp vs H Q E ->
  codeAny (model P w) A (.call (.ref f) args) (CR CX outer P w H s Q E) s
theorem cL.imp {P:Program}{w:World}{K:PySem.W.Frag}{mg:Str->Option Value}{base:Heap}{CX:iP}{k:Nat}{f:Addr}{fd:FuncData}{ps:List Str}{sp sp':Sp}(F:cL P w K mg base CX k f fd ps sp)
  (h:∀vs H Q E,sp' vs H Q E->sp vs H Q E):cL P w K mg base CX k f fd ps sp' :=
 ⟨fun vs H Q E q=>F.len vs H Q E (h _ _ _ _ q),fun A outer s H args us vs Q E hr he hb hv hs=>F.run A outer s H args us vs Q E hr he hb hv (h _ _ _ _ hs)⟩
section
variable {X:Cx}{pins:List (Addr×Obj)}{σ:St}{H:Hp}{s s':Shared}
theorem Inv.G_ (I:Inv X pins σ H s):rT X.prog X.w X.K X.mg X.base X.A X.stack s H :=
 ⟨I.ok.frames,I.ok.mod,I.bs,Nat.le_trans I.ok.bsz I.sz,I.stack,I.pC,I.hok,I.bare⟩
theorem Inv.after {Q:VK}{u:Value}(I:Inv X pins σ H s)(h:CE X.stack X.prog X.w H s Q u s'):EP X pins σ Q u s':=by
 obtain⟨v,H',os,bare,un,hok,r,q⟩:=h
 obtain⟨hh,g,d,t,os'⟩:=s'
 obtain rfl:os'=s.os:=os
 exact⟨v,H',I.call (h':=hh) (g':=g) (d':=d) (t':=t) (ch:=[]) un hok bare (fun b z=>absurd z (by simp)),r,q⟩
end
def sm (sp:Sp)(dvs:List V)(E:XK)(t:TA):TE:=fun σ H Q=>t σ H fun vs H1=>sp (vs++dvs) H1 Q E
def Binds (K:PySem.W.Frag)(fd:FuncData)(ps:List Str)(ds:List Value):Prop :=
 ∀(s:Shared) (us:List Value),K.In s.heap->(us++ds).length=ps.length->BindsTo s fd ⟨us,[]⟩ (ps.zip (us++ds))
theorem Binds.all {K:PySem.W.Frag}{fd:FuncData}{ps:List Str}(h:∀us:List Value,us.length=ps.length->bindArgs fd ⟨us,[]⟩=pure (ps.zip us)):Binds K fd ps []:=fun s us _ hl=>by
 rw [List.append_nil] at hl ⊢
 exact .of_eq (h us hl)
def Passes (CX:iP)(X:Cx)(E:XK):Prop:=∀(pins:List (Addr×Obj)) (σ:St) (H:Hp) (s:Shared) (e:Value) (s':Shared),Inv X pins σ H s->CX X.stack H s E e s'->X.xe e s'
section
variable {X:Cx}{CX:iP}{k:Nat}{f C:Addr}{fd:FuncData}{ps:List Str}{sp:Sp}{dvs:List V}{ds:List Value}{E:XK}{x m:Str}{p pos apos:Pos}{e o:Expr}{es:List Expr}{ta:TE}{t:TA}
theorem sX {pins:List (Addr×Obj)}{σ:St}{H:Hp}{s:Shared}{Q:VK}{us:List Value}{vs:List V}(F:cL X.prog X.w X.K X.mg X.base CX k f fd ps sp)(hr:aC k X.A)(hb:Binds X.K fd ps ds)(hd:Vals dvs ds)(hx:Passes CX X E)
  (I:Inv X pins σ H s) (r:Vals vs us) (h:sp (vs++dvs) H Q E):wpAny (model X.prog X.w) X.A (call (.ref f) us) (EP X pins σ Q) X.xe s:=by
 have r2:Vals (vs++dvs) (us++ds):=r.append hd
 have hl:(us++ds).length=ps.length:=by rw [<- r2.length];exact F.len _ _ _ _ h
 refine wpAny_call (codeAny_mono (F.run X.A X.stack s H ⟨us,[]⟩ (us++ds) (vs++dvs) Q E hr I.G_ (hb s us I.fN hl) r2 h) fun r s' hq=>?_)
 cases r with
 | error e=>exact hx pins σ H s e s' I hq
 | ok fl =>
  cases fl with
  | ret u=>exact I.after hq
  | next=>exact False.elim hq
  | brk=>exact False.elim hq
  | cont=>exact False.elim hq
theorem zc (F:cL X.prog X.w X.K X.mg X.base CX k f fd ps sp)(hr:aC k X.A)(hg:Gl X x)(hm:X.mg x=some (.ref f))(hk:PySem.W.keepIn X.K (.ref f)=true)(hb:Binds X.K fd ps ds)(hd:Vals dvs ds)(hx:Passes CX X E)
  (ha:PA X (e::es) t) (hdb:(x == ("__debug__":Str))=false:=by decide) (he:starEach (e::es) X.env=(false,eval e X.env)::starEach es X.env:=by rfl) (hpl:(backTo pos (starEach es X.env)).any (·.1)=false:=by rfl) :
  PE X (.Call (.Name x p) (e::es) [] pos) (sm sp dvs E t):=by
 intro pins s σ H Q I h
 refine wpAny_Call_Name_kw (lW I hg hm ?_ hdb)
 refine PySem.W.callWith_K (h₀:=X.base) I.ok.mod.kin hk (aI (ha pos pins s σ H _ I h) fun us s1 ⟨vs,H1,I1,r,q⟩=>⟨I1.fN,?_⟩) he hpl
 exact sX F hr hb hd hx I1 r q
theorem vX (F:cL X.prog X.w X.K X.mg X.base CX k f fd ps sp)(hr:aC k X.A)(hg:Gl X x)(hm:X.mg x=some (.ref f))(hk:PySem.W.keepIn X.K (.ref f)=true)(hb:Binds X.K fd ps ds)(hd:Vals dvs ds)(hx:Passes CX X E)
  (hdb:(x == ("__debug__":Str))=false:=by decide):PE X (.Call (.Name x p) [] [] pos) (sm sp dvs E A7):=by
 intro pins s σ H Q I h
 refine wpAny_Call_Name_kw (lW I hg hm ?_ hdb)
 exact PySem.W.callWith_K0 I.fN hk (sX (us:=[]) F hr hb hd hx I .nil h)
structure Mk (K:PySem.W.Frag)(C f:Addr):Prop where
 makes:PySem.W.makesIn K C=true
 init:PySem.W.findIn K (.ref C) "__init__" = some (some (.ref f))
 fn:PySem.W.isFn K (.ref f)=true
 kp:PySem.W.keepIn K (.ref C)=true
end
section
variable {X:Cx}{CX:iP}{k:Nat}{f C:Addr}{fd:FuncData}{ps ks:List Str}{sp:Sp}{E:XK}{x m:Str}{p pos apos kpos:Pos}{e o:Expr}{es:List Expr}{kws:List Keyword}{te ta:TE}{t tk:TA}{nm:Option Str}
structure JC (K:PySem.W.Frag)(fd:FuncData)(ps ks:List Str)(g:List Value->List Value->List Value)(gV:List V->List V->List V):Prop where
 to:∀(s:Shared) (us ws:List Value),K.In s.heap->(g us ws).length=ps.length->BindsTo s fd ⟨us,ks.zip ws⟩ (ps.zip (g us ws))
 rel:∀{vs:List V} {us:List Value} {zs:List V} {ws:List Value},Vals vs us->Vals zs ws->Vals (gV vs zs) (g us ws)
variable {g:List Value->List Value->List Value}{gV:List V->List V->List V}
end
structure fU (N P:List Str)(sc:Scope):Prop where
 kind:sc.kind = .function
 co:sc.isCoroutine=false
 gen:sc.isGenerator=false
 nd:N.Nodup
 pre:N.take P.length=P
 par:∀x∈P,sc.names.lookup x=some .local\/sc.names.lookup x=some .cell
 nofree:∀y∈sc.names,y.2 ≠ .free
theorem ml {kindOf:Str->Option NameKind}{x:Str}:∀{binds:List (Str×Value)} {m:Str->Option Value},(∀v,(x,v) ∉ binds)->bindL kindOf binds m x=m x
 | [],_,_=>rfl
 | (n,v)::r,m,h=>by
  unfold bindL
  rw [ml fun w hw=>h w (List.mem_cons_of_mem _ hw)]
  split
  . have:x≠n:=by rintro rfl;exact h v List.mem_cons_self
    simp [this]
  . rfl
theorem mB {kindOf:Str->Option NameKind}{x:Str}:∀{binds:List (Str×Value)} {m:Str->Option Value},(∀v,(x,v) ∉ binds)->bindC kindOf binds m x=m x
 | [],_,_=>rfl
 | (n,v)::r,m,h=>by
  unfold bindC
  rw [mB fun w hw=>h w (List.mem_cons_of_mem _ hw)]
  split
  . rfl
  . have:x≠n:=by rintro rfl;exact h v List.mem_cons_self
    simp [this]
theorem mq {kindOf:Str->Option NameKind}{x:Str}{v:Value}:∀{P:List Str} {vs:List Value} {i:Nat} {m:Str->Option Value},P.Nodup->P[i]? = some x->vs[i]? = some v->kindOf x=some .local ->
  bindL kindOf (P.zip vs) m x=some v
 | [],_,_,_,_,h,_,_=>by simp at h
 | _::_,[],_,_,_,_,h,_=>by simp at h
 | p::P,w::vs,0,m,nd,h1,h2,hk=>by
  simp at h1 h2;subst h1;subst h2
  show bindL kindOf ((p,w)::P.zip vs) m p=_
  unfold bindL
  rw [ml fun v hv=>(List.nodup_cons.mp nd).1 (List.of_mem_zip hv).1,if_pos hk]
  simp
 | p::P,w::vs,i+1,m,nd,h1,h2,hk=>by
  show bindL kindOf ((p,w)::P.zip vs) m x=_
  unfold bindL
  exact mq (i:=i) (List.nodup_cons.mp nd).2 (by simpa using h1) (by simpa using h2) hk
theorem mF {kindOf:Str->Option NameKind}{x:Str}{v:Value}:∀{P:List Str} {vs:List Value} {i:Nat} {m:Str->Option Value},P.Nodup->P[i]? = some x->vs[i]? = some v->kindOf x≠some .local ->
  bindC kindOf (P.zip vs) m x=some v
 | [],_,_,_,_,h,_,_=>by simp at h
 | _::_,[],_,_,_,_,h,_=>by simp at h
 | p::P,w::vs,0,m,nd,h1,h2,hk=>by
  simp at h1 h2;subst h1;subst h2
  show bindC kindOf ((p,w)::P.zip vs) m p=_
  unfold bindC
  rw [mB fun v hv=>(List.nodup_cons.mp nd).1 (List.of_mem_zip hv).1,if_neg hk]
  simp
 | p::P,w::vs,i+1,m,nd,h1,h2,hk=>by
  show bindC kindOf ((p,w)::P.zip vs) m x=_
  unfold bindC
  exact mF (i:=i) (List.nodup_cons.mp nd).2 (by simpa using h1) (by simpa using h2) hk
def start (N:List Str)(vs:List V):St:=vs.map some++List.replicate (N.length-vs.length) none
def ja (CX:iP)(P:Program)(w:World)(K:PySem.W.Frag)(mg:Str->Option Value)(base:Heap)(N:List Str)(qual:Str)(scope:Scope)(f:Addr)(cd:Value)(A:Around)(outer:List Env)(s:Shared)(H:Hp)(E:XK):Cx where
 prog:=P
 w:=w
 K:=K
 mg:=mg
 base:=base
 A:=A.deeper (envOfC qual scope s.heap.objs.size f cd)
 N:=N
 s₀:=s
 H₀:=H
 env:=envOfC qual scope s.heap.objs.size f cd
 outer:=outer
 stack:=envOfC qual scope s.heap.objs.size f cd::outer
 ex:=[]
 calm:=true
 fn:=fun _=>true
 pn:=[]
 xe:=fun e s'=>wpAny (model P w) (A.deeper (envOfC qual scope s.heap.objs.size f cd)) (leaving (envOfC qual scope s.heap.objs.size f cd) e) (fun _ s''=>CX outer H s E e s'') (fun e' s''=>CX outer H s E e' s'') s'
theorem ny {sc:Scope}{n:Nat}{x:Str}(h:sc.names.lookup x=some .cell):∃c,(cellsFrom n sc.names []).lookup x=some c:=by
 have q:=PySem.W.cellsFrom_some sc.names n [] (.inl h)
 exact Option.isSome_iff_exists.mp q
theorem sU {CX:iP}{P:Program}{w:World}{K:PySem.W.Frag}{mg:Str->Option Value}{base:Heap}{N ps:List Str}{qual:Str}{scope:Scope}{f:Addr}{cd:Value}{A:Around}{outer:List Env}{s s1:Shared}{H:Hp}{E:XK}{us:List Value}{vs:List V}
   (S:fU N ps scope) (hd:A.handled=none) (e0:rT P w K mg base A outer s H) (hl:vs.length=ps.length) (r:Vals vs us)
   (x:InCallC s s.heap.objs.size (bindL (envOfC qual scope s.heap.objs.size f cd).kindOf (ps.zip us) fun _=>none) (cellsFrom (s.heap.objs.size+1) scope.names []) (bindC (envOfC qual scope s.heap.objs.size f cd).kindOf (ps.zip us) fun _=>none) s1) :
   Inv (ja CX P w K mg base N qual scope f cd A outer s H E) [] (start N vs) H s1:=by
 have hpl:ps.length<=N.length:=by have:=congrArg List.length S.pre;rw [List.length_take] at this;omega
 obtain⟨h1,tk,rfl,hk⟩:=x.done
 have noA:∀b:Addr,b ∉ (ja CX P w K mg base N qual scope f cd A outer s H E).ex:=fun b z=>absurd (show b∈([]:List Addr) from z) (by simp)
 refine⟨⟨e0.mod,S.kind,rfl,rfl,Nat.le_refl _,fun y z c h1 h2=>?_,fun y hy=>?_,fun y c _ h=>?_,fun _=>hd,Around.frames_deeper e0.frames,.inr ⟨rfl,rfl⟩,fun b z=>absurd z (noA b),e0.bs,e0.bsz,fun b _ _=>noA b,fun b z=>absurd z (noA b),e0.gB,e0.frf⟩,
   rfl,e0.bare,Un.kept hk,⟨_,x.toInCall.ns,fun i y v h1 h2 h3=>?_⟩,fun y c h=>⟨_,x.cell y c h⟩,e0.hok.fresh (Nat.le_refl _),fun y c h=>?_,fun p hp=>absurd (show p∈([]:List (Addr×Obj)) from hp) (by simp),e0.hok.kept hk,?_⟩
 . exact name_of_addr x.apart (PySem.mem_of_lookup h1) (PySem.mem_of_lookup h2)
 . have hy:scope.names.lookup y=some .cell\/scope.names.lookup y=some .free:=hy
   rcases hy with hy | hy
   . exact ny hy
   . exact absurd rfl (S.nofree _ (PySem.mem_of_lookup hy))
 . exact Nat.le_of_lt (x.above y c (PySem.mem_of_lookup h))
 . have hi:i<vs.length:=by
     unfold start at h2
     by_cases hi:i<vs.length
     . exact hi
     . rw [List.getElem?_append_right (by simpa using hi)] at h2
       rw [List.getElem?_replicate] at h2
       split at h2<;>cases h2
   have ha:vs[i]? = some v:=by
     unfold start at h2
     rw [List.getElem?_append_left (by simpa using hi),List.getElem?_map] at h2
     cases e:vs[i]? with
     | none=>rw [e] at h2;cases h2
     | some a=>rw [e] at h2;cases h2;rfl
   obtain⟨u,hu,rv⟩:=r.get ha
   have hp:ps[i]? = some y:=by
     rw [<- S.pre,List.getElem?_take_of_lt (by omega)];exact h1
   have ndP:ps.Nodup:=by rw [<- S.pre];exact S.nd.sublist (List.take_sublist _ _)
   refine⟨u,rv,?_⟩
   rcases S.par y (List.mem_of_getElem? hp) with k | k
   . exact .inl ⟨k,mq ndP hp hu k⟩
   . obtain⟨c,e⟩:=ny (n:=s.heap.objs.size+1) k
     refine .inr ⟨.inl k,c,e,?_⟩
     have q:=x.cell y c e
     rw [mF ndP hp hu (by show scope.names.lookup y≠_;rw [k];decide)] at q
     exact q
 . exact e0.hok.fresh (Nat.le_of_lt (x.above y c (PySem.mem_of_lookup h)))
 . unfold start
   show _=N.length
   rw [List.length_append,List.length_map,List.length_replicate]
   omega
theorem D7 {CX:iP}{P:Program}{w:World}{K:PySem.W.Frag}{mg:Str->Option Value}{base:Heap}{k:Nat}{f:Addr}{name qual:Str}{params:Arguments}{body:List Stmt}{scope:Scope}{dV kV doc pm cdv ct oc:Value}{an od:Option Addr}
  {osl:Array (Option Value)} {N ps:List Str} {sp:Sp} (lk:K.lookup f=some ⟨oc,od,.func (PySem.W.fnOf name qual params body scope dV kV doc pm an cdv ct),osl⟩) (hcd:PySem.W.codeIn K cdv qual=true) (S:fU N ps scope)
  (len:∀vs H Q E,sp vs H Q E->vs.length=ps.length)
  (hbody:∀(A:Around) (outer:List Env) (s:Shared) (H:Hp) (vs:List V) (Q:VK) (E:XK),aC k (A.deeper (envOfC qual scope s.heap.objs.size f cdv))->sp vs H Q E ->
    ∃t,eL (ja CX P w K mg base N qual scope f cdv A outer s H E) body t/\t { nx:=fun _ H'=>Q .non H',rt:=Q } (start N vs) H) :
  cL P w K mg base CX (k+1) f (PySem.W.fnOf name qual params body scope dV kV doc pm an cdv ct) ps sp:=by
 refine⟨len,fun A outer s H args us vs Q E hr e0 hb r hsp=>?_⟩
 have hl:=len _ _ _ _ hsp
 have KX:K.In s.heap:=e0.mod.kin.keeps fun b o e=>(e0.bs b o e).1
 have lim:s.heap.NoLimit:=e0.mod.nolimit.keeps fun b o e=>(e0.bs b o e).1
 have hkind:∀y∈ps.zip us,scope.names.lookup y.1=some .local\/(scope.names.lookup y.1=some .cell/\((cellsFrom (s.heap.objs.size+1) scope.names []).lookup y.1).isSome=true):=fun⟨n,v⟩ hy=>by
  rcases S.par n (List.of_mem_zip hy).1 with q | q
  . exact .inl q
  . exact .inr ⟨q,PySem.W.cellsFrom_some _ _ _ (.inl q)⟩
 refine codeAny_call_function hr.depth (KX _ _ lk) rfl S.co S.gen rfl (PySem.W.codeRec_of KX hcd) (hb _ _ _ _ ?_)
 refine wpAny_newFunctionEnv_cells S.kind hkind fun env he s1 x=>?_
 subst he
 refine⟨lim.keeps x.toInCall.keep,codeAny_func ?_⟩
 obtain⟨t,ht,hq⟩:=hbody A outer s H vs Q E (hr.deeper _) hsp
 have I:Inv (ja CX P w K mg base N qual scope f cdv A outer s H E) [] (start N vs) H s1:=sU S hr.hd e0 hl r x
 refine wpAny_mono (ht [] s1 (start N vs) H _ I hq) (fun fl s' hs=>?_) fun e s' hs=>hs
 have fin:∀{σ':St} {H':Hp} {v:V} {u:Value},Inv (ja CX P w K mg base N qual scope f cdv A outer s H E) [] σ' H' s'->RelV v u->Q v H'->CE outer P w H s Q u s' :=
  fun {σ' H' v u} J rv q=>⟨v,H',J.os,J.bare,J.base,J.hok,rv,q⟩
 cases fl with
 | ret u =>
  obtain⟨v,σ',H',J,rv,q⟩:=hs
  exact fin J rv q
 | next =>
  obtain⟨σ',H',J,q⟩:=hs
  exact fin (v:=V.non) (u:=Value.none) J rfl q
 | brk =>
  obtain⟨_,_,_,q⟩:=hs
  exact False.elim q
 | cont =>
  obtain⟨_,_,_,q⟩:=hs
  exact False.elim q
section
variable {X:Cx}{x:Str}{p pos:Pos}{e:Expr}{es:List Expr}{t:TA}{id T:String}{r:List V->Hp->VK->Prop}
def EV (r:List V->Hp->VK->Prop)(t:TA):TE:=fun σ H Q=>t σ H fun vs H1=>r vs H1 Q
theorem nt (hc:ck X (.builtin id) r)(hg:Gl X x)(hm:X.mg x=none)(hv:bootBuiltins x=some (.builtin id))(ha:PA X (e::es) t)(hn:x ≠ "__name__":=by decide)(hdb:(x == ("__debug__":Str))=false:=by decide)
  (he:starEach (e::es) X.env=(false,eval e X.env)::starEach es X.env:=by rfl) (hpl:(backTo pos (starEach es X.env)).any (·.1)=false:=by rfl):PE X (.Call (.Name x p) (e::es) [] pos) (EV r t):=by
 intro pins s σ H Q I h
 refine wpAny_Call_Name_kw (c_ I hg hm hv ?_ hn hdb)
 exact PyProof.Rows.callWith_builtin1 (aI (ha pos pins s σ H _ I h) fun us s1 ⟨vs,H1,I1,r1,q1⟩=>hc pins s1 σ H1 vs us Q I1 r1 q1) he hpl
theorem tS (hc:ck X (.type T) r)(hg:Gl X x)(hm:X.mg x=none)(hv:bootBuiltins x=some (.type T))(ha:PA X (e::es) t)(hn:x ≠ "__name__":=by decide)(hdb:(x == ("__debug__":Str))=false:=by decide)
  (he:starEach (e::es) X.env=(false,eval e X.env)::starEach es X.env:=by rfl) (hpl:(backTo pos (starEach es X.env)).any (·.1)=false:=by rfl):PE X (.Call (.Name x p) (e::es) [] pos) (EV r t):=by
 intro pins s σ H Q I h
 refine wpAny_Call_Name_kw (c_ I hg hm hv ?_ hn hdb)
 exact PyProof.Rows.callWith_type1 (aI (ha pos pins s σ H _ I h) fun us s1 ⟨vs,H1,I1,r1,q1⟩=>hc pins s1 σ H1 vs us Q I1 r1 q1) he hpl
end
end L2
namespace HT
open PySem PyProof.Rows
section
open PySem.SeqAt
open PySem.AutoSeq1 (wpAny_loadPart')
open PySem.MeetsSeq PySem.MeetsSeq2 PySem.MeetsSeq3
end
section
variable {prog:Program}{w:World}{A:Around}{E:Value->Shared->Prop}{s:Shared}
theorem x9 {t b:Addr}{vs ws:List Value}{Q:Value->Shared->Prop}(ht:IsTup s.heap t vs.toArray)(hb:IsTup s.heap b ws.toArray)(hv:vs ≠ [])
   (h1:ws = []->Q (.ref t) s) (h2:ws ≠ []->Q (.ref s.heap.objs.size) { s with heap:=s.heap.push { cls:=.type "tuple",data:=.seq (vs++ws).toArray } })
   (hsz:vs.length+ws.length<=sizeLine):wpAny (model prog w) A (binaryOp .Add (.ref t) (.ref b)) Q E s:=by
 obtain⟨⟨cls,dd,data,sl⟩,ho,hc,n,hd⟩:=id ht
 obtain⟨⟨cls2,dd2,data2,sl2⟩,ho2,hc2,n2,hd2⟩:=id hb
 simp only at hc hd hc2 hd2
 subst hc hd hc2 hd2
 have e:vs.toArray++ws.toArray=(vs++ws).toArray:=by simp
 by_cases hw:ws = []
 . exact concat_meets ⟨_,ho,rfl⟩ ⟨_,ho2,rfl⟩ noFill_tuple_add seq_tuple_add PySem.F.slot_tuple_add PySem.F.entry_tuple_add (PySem.F.args_tuple_add_2 _ _)
    (tuple_addW1 t b vs.toArray ws.toArray n n2 dd dd2 sl sl2 (by simpa using hv) (by simp [hw])) ⟨ho,ho2,h1 hw⟩
 . refine concat_meets ⟨_,ho,rfl⟩ ⟨_,ho2,rfl⟩ noFill_tuple_add seq_tuple_add PySem.F.slot_tuple_add PySem.F.entry_tuple_add (PySem.F.args_tuple_add_2 _ _)
    (tuple_addW2 t b vs.toArray ws.toArray n n2 dd dd2 sl sl2 (by simpa using hv) (by simpa using hw) (by rw [List.size_toArray,List.size_toArray];exact hsz)) ⟨ho,ho2,?_⟩
   rw [e]
   exact h2 hw
def aU (n d:Nat):Option Int->Nat
 | none=>d
 | some v=>if v<0 then(v+(n:Int)).toNat else min v.toNat n
theorem gj (n d:Nat):aU n d none=d:=rfl
theorem pX (n d k:Nat):aU n d (some (k:Int))=min k n:=by
 show(if(k:Int)<0 then((k:Int)+(n:Int)).toNat else min (k:Int).toNat n)=min k n
 rw [if_neg (by omega),Int.toNat_natCast]
theorem CO (n d:Nat)(hd:d<=n)(o:Option Int):aU n d o<=n:=by
 cases o with
 | none=>exact hd
 | some v =>
  show(if v<0 then(v+(n:Int)).toNat else min v.toNat n)<=n
  by_cases hv:v<0
  . rw [if_pos hv];omega
  . rw [if_neg hv];exact Nat.min_le_right _ _
theorem pK (v:Int)(n d:Nat):(if v<0 then max (v+(n:Int)) 0 else min v (n:Int))=((aU n d (some v):Nat):Int):=by
 show(if v<0 then max (v+(n:Int)) 0 else min v (n:Int))=(((if v<0 then(v+(n:Int)).toNat else min v.toNat n):Nat):Int)
 by_cases hv:v<0
 . simp only [if_pos hv];omega
 . simp only [if_neg hv];omega
theorem rH (lo hi:Option Int)(n:Nat):Builtin.Slice.sliceAdjust lo hi 1 (n:Int)=(((aU n 0 lo:Nat):Int),((aU n n hi:Nat):Int)):=by
 have h1:¬((1:Int)<0):=by omega
 unfold Builtin.Slice.sliceAdjust
 simp only [h1,if_false]
 refine Prod.ext ?_ ?_
 . cases lo with
   | none=>rfl
   | some v=>exact pK v n 0
 . cases hi with
   | none=>rfl
   | some v=>exact pK v n n
theorem qM (i j:Nat):Builtin.Slice.slicePlaces (i:Int) (j:Int) 1=j-i:=by
 unfold Builtin.Slice.slicePlaces
 have h1:(1:Int)>0:=by omega
 simp only [h1,if_true,Int.ediv_one]
 split<;>omega
theorem lg {v:Value}{o:Option Int}{Q:Option Int->Shared->Prop}(p:IsPart v o)(h:Q o s):wpAny (model prog w) A (Builtin.Slice.slicePartIndex v) Q E s:=by
 cases p with
 | none=>exact slicePart_none h
 | int i t=>exact slicePart_int h
theorem gu {sl:Addr}{vl vu:Value}{lo hi:Option Int}{n:Nat}{Q:Int×Int×Nat->Shared->Prop}(hs:s.heap.IsSliceOf sl vl vu .none)(pl:IsPart vl lo)(pu:IsPart vu hi)
  (h:Q (((aU n 0 lo:Nat):Int),1,aU n n hi-aU n 0 lo) s):wpAny (model prog w) A (Builtin.Slice.sliceApplied (.ref sl) (pure (n:Int))) Q E s:=by
 obtain⟨os,hos,hcs,hds⟩:=id hs
 unfold Builtin.Slice.sliceApplied Builtin.Slice.sliceFields
 refine wpAny_bind (wpAny_bind (wpAny_field hos hds (x:=vl) rfl (wpAny_bind (wpAny_field hos hds (x:=vu) rfl (wpAny_bind (wpAny_field hos hds (x:=.none) rfl (wpAny_pure ?_)))))))
 refine wpAny_bind (slicePart_none ?_)
 show wpAny _ _ (if((1:Int) == 0)=true then _ else _) _ _ s
 rw [if_neg (by decide)]
 refine wpAny_bind (lg pl (wpAny_bind (lg pu (wpAny_bind (wpAny_pure ?_)))))
 show wpAny _ _ (match Builtin.Slice.sliceAdjust lo hi 1 (n:Int) with | (lo,hi)=>pure (lo,(1:Int),Builtin.Slice.slicePlaces lo hi 1)) _ _ s
 rw [rH lo hi n]
 show wpAny _ _ (pure (((aU n 0 lo:Nat):Int),(1:Int),Builtin.Slice.slicePlaces ((aU n 0 lo:Nat):Int) ((aU n n hi:Nat):Int) 1)) _ _ s
 rw [qM]
 exact wpAny_pure h
theorem vB (xs:Array Value)(i k:Nat):((List.range k).filterMap fun(m:Nat)=>xs[((i:Int)+(m:Int)*1).toNat]?).toArray=((xs.toList.drop i).take k).toArray:=by
 have e:(fun(m:Nat)=>xs[((i:Int)+(m:Int)*1).toNat]?)=fun m=>xs[i+m]?:=by
  funext m
  have:((i:Int)+(m:Int)*1).toNat=i+m:=by omega
  rw [this]
 rw [e]
 have:=pick_run xs i k
 rw [List.filterMap_map] at this
 have e2:((fun x=>xs[x]?) ∘ fun x=>i+x)=fun m=>xs[i+m]?:=rfl
 rw [e2] at this
 rw [this]
theorem jK {t sl:Addr}{items:Array Value}{vl vu:Value}{lo hi:Option Int}{Q:Value->Shared->Prop}(ht:IsTup s.heap t items)(hs:s.heap.IsSliceOf sl vl vu .none)(pl:IsPart vl lo)(pu:IsPart vu hi)
  (hw:¬(aU items.size 0 lo=0/\aU items.size items.size hi=items.size))
  (h:Q (.ref s.heap.objs.size) { s with heap:=s.heap.push { cls:=.type "tuple",data:=.seq ((items.toList.drop (aU items.size 0 lo)).take (aU items.size items.size hi-aU items.size 0 lo)).toArray } })
  (hsz:items.size<=sizeLine):wpAny (model prog w) A (getItem (.ref t) (.ref sl)) Q E s:=by
 have htake:sizeOk (.seq ((items.toList.drop (aU items.size 0 lo)).take (aU items.size items.size hi-aU items.size 0 lo)).toArray):=by
  show((items.toList.drop (aU items.size 0 lo)).take (aU items.size items.size hi-aU items.size 0 lo)).toArray.size<=sizeLine
  rw [List.size_toArray,List.length_take,List.length_drop,Array.length_toList]
  omega
 have hj:aU items.size items.size hi<=items.size:=CO _ _ (Nat.le_refl _) hi
 obtain⟨os,hos,hcs,hds⟩:=id hs
 have hTs:s.TypeIs (.ref sl) "slice":=⟨os,hos,hcs⟩
 unfold getItem
 try with_reducible refine wpAny_holding ?_
 first | refine wpAny_bind (wpAny_pure ?_) | skip
 refine wpAny_bind (wpAny_sequenceKey ht.typeIs (by decide) ?_)
 refine wpAny_bind (wpAny_callSpecial?_slot (name:=Str.ofString "__getitem__") ht.typeIs PyProof.Rows.slot_tuple_getitem
  (wpAny_call_entry PyProof.Rows.slot_tuple_getitem ht.typeIs entry_tuple_getitem ?_ (args_tuple_getitem _ _)))
 show wpAny _ _ (Builtin.Tuple.tupleItemsOf (.ref t) >>= _) _ _ s
 refine wpAny_bind (tupleItemsOf_ ht ?_)
 refine wpAny_bind (wpAny_typeOf hTs ?_)
 rw [if_pos (by decide)]
 refine wpAny_bind (gu hs pl pu ?_)
 have hno:¬((((aU items.size 0 lo:Nat):Int) == 0&&(1:Int) == 1&&(aU items.size items.size hi-aU items.size 0 lo) == items.size)=true):=by
  intro q
  rw [Bool.and_eq_true,Bool.and_eq_true] at q
  have q1:((aU items.size 0 lo:Nat):Int)=0:=eq_of_beq q.1.1
  have q2:aU items.size items.size hi-aU items.size 0 lo=items.size:=eq_of_beq q.2
  exact hw ⟨by omega,by omega⟩
 show wpAny _ _ (if(((aU items.size 0 lo:Nat):Int) == 0&&(1:Int) == 1&&(aU items.size items.size hi-aU items.size 0 lo) == items.size)=true then _ else _) _ _ s
 rw [if_neg hno,vB]
 first
  | exact wpAny_bind (m:=Builtin.Tuple.tupleExact _) (wpAny_newObj_type (wpAny_pure ⟨_,rfl,wpAny_pure h⟩) htake)
  | exact wpAny_bind (m:=Builtin.Tuple.tupleExact _) (wpAny_newObj_type (wpAny_bind (wpAny_pure (wpAny_pure ⟨_,rfl,wpAny_pure h⟩))) htake)
  | exact wpAny_bind (wpAny_bind (m:=Builtin.Tuple.tupleExact _) (wpAny_newObj_type (wpAny_pure (wpAny_pure ⟨_,rfl,wpAny_pure h⟩)) htake))
  | exact wpAny_bind (wpAny_bind (m:=Builtin.Tuple.tupleExact _) (wpAny_newObj_type (wpAny_pure ⟨_,rfl,wpAny_pure h⟩) htake))
end
end HT
namespace L2
open PySem PySem.Spec PyProof.Rows
abbrev TO:=St->Hp->(Option Int->Hp->Prop)->Prop
def PO (X:Cx)(e:Option Expr)(t:TO):Prop :=
 ∀(pins:List (Addr×Obj)) (s:Shared) (σ:St) (H:Hp) (Q:Option Int->Hp->Prop),Inv X pins σ H s->t σ H Q ->
  wpAny (model X.prog X.w) X.A (evalPart e X.env) (fun u s'=>∃o H',Inv X pins σ H' s'/\IsPart u o/\Q o H') X.xe s
def zD:TO:=fun _ H Q=>Q none H
def EG (t:TE):TO:=fun σ H Q=>t σ H fun x H1=>∃i,x = .int i/\Q (some i) H1
section
variable {X:Cx}{e:Expr}{te:TE}{lo hi:Option Expr}{tl th:TO}{pos p2:Pos}
theorem zl:PO X none zD:=by
 intro pins s σ H Q I h
 rw [evalPart_none]
 exact wpAny_pure ⟨none,H,I,.none,h⟩
theorem yv (h:PE X e te):PO X (some e) (EG te):=by
 intro pins s σ H Q I hw
 rw [evalPart_some]
 refine aI (h pins s σ H _ I hw) fun u s1 ⟨x,H1,I1,r1,q1⟩=>?_
 obtain⟨i,rfl,q⟩:=q1
 obtain⟨t,rfl⟩:=r1
 exact⟨some i,H1,I1,.int i t,q⟩
def jN (X:Cx)(r:V->Option Int->Option Int->Hp->VK->Prop):Prop :=
 ∀(pins:List (Addr×Obj)) (s:Shared) (σ:St) (H:Hp) (x:V) (v vl vu:Value) (lo hi:Option Int) (sl:Addr) (Q:VK),Inv X pins σ H s->RelV x v->s.heap.IsSliceOf sl vl vu .none->IsPart vl lo->IsPart vu hi->r x lo hi H Q ->
  ∃T id,typeLookup (.type T) "__getitem__" = pure (some (.builtin id))/\s.TypeIs v T/\wpAny (model X.prog X.w) X.A (getItem v (.ref sl)) (EP X pins σ Q) X.xe s
theorem jN.or {r r':V->Option Int->Option Int->Hp->VK->Prop}(h:jN X r)(h':jN X r'):jN X (fun x lo hi H Q=>r x lo hi H Q\/r' x lo hi H Q):=by
 intro pins s σ H x v vl vu lo hi sl Q I rx hs pl pu q
 rcases q with q | q
 . exact h pins s σ H x v vl vu lo hi sl Q I rx hs pl pu q
 . exact h' pins s σ H x v vl vu lo hi sl Q I rx hs pl pu q
def JM (r:V->Option Int->Option Int->Hp->VK->Prop)(te:TE)(tl th:TO):TE:=fun σ H Q=>te σ H fun x H1=>tl σ H1 fun l H2=>th σ H2 fun u H3=>r x l u H3 Q
theorem vo {r:V->Option Int->Option Int->Hp->VK->Prop}(hr:jN X r)(he:PE X e te)(hl:PO X lo tl)(hu:PO X hi th):PE X (.Subscript e (.Slice lo hi none p2) pos) (JM r te tl th):=by
 intro pins s σ H Q I h
 refine Subscript_ (aI (he pins s σ H _ I h) fun v s1 ⟨x,H1,I1,r1,q1⟩=>?_)
 refine wpAny_Slice (aI (hl pins s1 σ H1 _ I1 q1) fun vl s2 ⟨l,H2,I2,pl,q2⟩=>aI (hu pins s2 σ H2 _ I2 q2) fun vu s3 ⟨u,H3,I3,pu,q3⟩=>?_)
 rw [evalPart_none]
 refine wpAny_pure ?_
 have I4:Inv X pins σ H3 { s3 with heap:=s3.heap.push { cls:=.type "slice",data:=.fields #[vl,vu,.none] } }:=I3.kept (t':=s3.toks) fun b ob q=>Heap.get?_push_of_some _ q
 obtain⟨T,id,hT,ht,hg⟩:=hr pins { s3 with heap:=s3.heap.push { cls:=.type "slice",data:=.fields #[vl,vu,.none] } } σ H3 x v vl vu l u s3.heap.objs.size Q I4 r1 (Heap.IsSliceOf.new ..) pl pu q3
 show wpAny (model X.prog X.w) X.A (subscriptTail e (.Slice lo hi none p2) v (.ref s3.heap.objs.size)) (EP X pins σ Q) X.xe { s3 with heap:=s3.heap.push { cls:=.type "slice",data:=.fields #[vl,vu,.none] } }
 exact tail_any (ops:=[.ref s3.heap.objs.size,v]) ht hT hg (by with_unfolding_all rfl)
def jk (xs:List V)(lo hi:Option Int):List V:=(xs.drop (HT.aU xs.length 0 lo)).take (HT.aU xs.length xs.length hi-HT.aU xs.length 0 lo)
theorem jR (xs:List V)(lo hi:Option Int):(jk xs lo hi).length<=xs.length:=by
 unfold jk
 rw [List.length_take,List.length_drop]
 omega
def Bs (K:PySem.W.Frag):V->Option Int->Option Int->Hp->VK->Prop:=fun x lo hi H Q=>∃a xs,x = .ref a/\cq K H a xs /\
 ¬(HT.aU xs.length 0 lo=0/\HT.aU xs.length xs.length hi=xs.length) /\ ∀p,H p=none->Q (.ref p) (upd H p (.tup (jk xs lo hi)))
theorem AE:jN X (Bs X.K):=by
 intro pins s σ H x v vl vu lo hi sl Q I rx hs pl pu h
 obtain⟨a,xs,rfl,hx,hw,q⟩:=h
 cases rx
 obtain⟨its,r,ht,hz⟩:=I.tuple hx
 have hlen:its.toArray.size=xs.length:=by rw [List.size_toArray];exact r.length.symm
 refine⟨"tuple",_,PyProof.Rows.slot_tuple_getitem.lookup,ht.typeIs,?_⟩
 refine HT.jK ht hs pl pu (by rw [hlen];exact hw) ?_ (by rw [hlen];exact hz)
 rw [hlen]
 refine⟨.ref s.heap.objs.size,_,I.laid (t':=s.toks) (o:=.tup (jk xs lo hi)) (fun b ob q=>Heap.get?_push_of_some _ q) (Nat.le_refl _) ?_,rfl,q _ (I.hok.fresh (Nat.le_refl _))⟩
 exact⟨Nat.le_trans (jR xs lo hi) hz,_,(r.drop (HT.aU xs.length 0 lo)).take (HT.aU xs.length xs.length hi-HT.aU xs.length 0 lo),cN.new _ _⟩
def D3 (K:PySem.W.Frag):R2:=fun x y H Q=>∃a b xs ys,x = .ref a/\y = .ref b/\cq K H a xs/\cq K H b ys/\xs ≠ []/\xs.length+ys.length<=sizeLine /\
 (ys = []->Q (.ref a) H)/\(ys ≠ []->∀p,H p=none->Q (.ref p) (upd H p (.tup (xs++ys))))
theorem Vals.lQ {xs:List V}{us:List Value}(r:Vals xs us):us = [] ↔ xs = []:=by
 cases r with
 | nil=>simp
 | cons _ _=>simp
theorem zq:aT X (binaryOp .Add) (D3 X.K):=by
 intro pins s σ H x y v u Q I rx ry h
 obtain⟨a,b,xs,ys,rfl,rfl,ha,hb,hx,hz,q1,q2⟩:=h
 cases rx
 cases ry
 obtain⟨its,r1,p1,_⟩:=I.tuple ha
 obtain⟨its2,r2,p2,_⟩:=I.tuple hb
 refine HT.x9 p1 p2 (fun z=>hx (r1.lQ.mp z)) (fun z=>⟨.ref a,H,I,rfl,q1 (r2.lQ.mp z)⟩) (fun z=>?_) (by rw [<- r1.length,<- r2.length];exact hz)
 refine⟨.ref s.heap.objs.size,_,I.laid (t':=s.toks) (o:=.tup (xs++ys)) (fun b ob q=>Heap.get?_push_of_some _ q) (Nat.le_refl _) ?_,rfl,q2 (fun w=>z (r2.lQ.mpr w)) _ (I.hok.fresh (Nat.le_refl _))⟩
 exact⟨by rw [List.length_append];exact hz,_,r1.append r2,cN.new _ _⟩
end
def hG (n:Nat)(i:Int):Option Nat:=if 0<=i then(if i<n then some i.toNat else none) else if -(n:Int)<=i then some (i+n).toNat else none
def cH {α:Type}(xs:List α)(i:Int):Option α:=(hG xs.length i).bind fun j=>xs[j]?
theorem qp {n:Nat}{i:Int}{j:Nat}(h:hG n i=some j):seqIndex? i n=some j/\j<n /\ -(n:Int)<=i/\i<n:=by
 unfold hG at h
 by_cases h0:0<=i
 . rw [if_pos h0] at h
   by_cases h1:i<n
   . rw [if_pos h1] at h
     have e:i.toNat=j:=Option.some.inj h
     exact⟨by rw [seqIndex_of h0 h1,e],by omega,by omega,h1⟩
   . rw [if_neg h1] at h;cases h
 . rw [if_neg h0] at h
   by_cases h1:-(n:Int)<=i
   . rw [if_pos h1] at h
     have e:(i+n).toNat=j:=Option.some.inj h
     exact⟨by rw [seqIndex_neg (by omega) h1,e],by omega,h1,by omega⟩
   . rw [if_neg h1] at h;cases h
theorem lG {α:Type}{xs:List α}{i:Int}{v:α}(h:cH xs i=some v):∃j,seqIndex? i xs.length=some j/\xs[j]? = some v/\j<xs.length /\ -(xs.length:Int)<=i/\i<xs.length:=by
 unfold cH at h
 cases e:hG xs.length i with
 | none=>rw [e] at h;cases h
 | some j =>
  rw [e] at h
  obtain⟨h1,h2,h3,h4⟩:=qp e
  exact⟨j,h1,h,h2,h3,h4⟩
theorem zM {α:Type}{xs:List α}{j:Nat}{v:α}(h:xs[j]? = some v):cH xs (j:Int)=some v:=by
 have hj:j<xs.length:=(List.getElem?_eq_some_iff.mp h).1
 have e:hG xs.length (j:Int)=some j:=by
  unfold hG
  rw [if_pos (by omega),if_pos (by omega)];simp
 unfold cH;rw [e];exact h
theorem oC {α:Type}(xs:List α)(v:α):cH (xs ++ [v]) (-1)=some v:=by
 have hl:(xs ++ [v]).length=xs.length+1:=by simp
 have e:hG (xs ++ [v]).length (-1)=some xs.length:=by
  unfold hG
  rw [hl,if_neg (by decide),if_pos (by omega)]
  congr 1
  omega
 unfold cH
 rw [e]
 show(xs ++ [v])[xs.length]? = some v
 simp
def lI (b:Expr):Prop:=∀o i,subscripted b false o i=operate [o,i] (getItem o i)
def je (X:Cx)(r:R2):Prop :=
 ∀(value slice:Expr) (pins:List (Addr×Obj)) (s:Shared) (σ:St) (H:Hp) (x y:V) (v u:Value) (Q:VK),Inv X pins σ H s->RelV x v->RelV y u->r x y H Q ->
  subscripted slice false v u=operate [v,u] (getItem v u)->wpAny (model X.prog X.w) X.A (subscriptTail value slice v u) (EP X pins σ Q) X.xe s
def Kb (X:Cx)(id:String)(r:V->List V->Hp->VK->Prop):Prop :=
 ∀(pins:List (Addr×Obj)) (s:Shared) (σ:St) (H:Hp) (x:V) (xs:List V) (v:Value) (us:List Value) (Q:VK),Inv X pins σ H s->RelV x v->Vals xs us->r x xs H Q ->
  wpAny (model X.prog X.w) X.A (call (.builtin id) (v::us)) (EP X pins σ Q) X.xe s
section
variable {X:Cx}{a b:Expr}{ta tb:TE}{pos:Pos}
theorem je.or {r r':R2}(h:je X r)(h':je X r'):je X (fun x y H Q=>r x y H Q\/r' x y H Q):=by
 intro value slice pins s σ H x y v u Q I rx ry q hs
 rcases q with q | q
 . exact h value slice pins s σ H x y v u Q I rx ry q hs
 . exact h' value slice pins s σ H x y v u Q I rx ry q hs
theorem EO {r:R2}(hr:je X r)(ha:PE X a ta)(hb:PE X b tb)(hs:lI b):PE X (.Subscript a b pos) (sV r ta tb):=by
 intro pins s σ H Q I h
 exact Subscript_ (vh ha hb I h fun v u s2 x y H2 I2 rx ry q=>hr a b pins s2 σ H2 x y v u Q I2 rx ry q (hs _ _))
def Bb (K:PySem.W.Frag):R2:=fun x y H Q=>∃p xs i v,x = .ref p/\y = .int i/\cw K H p xs/\cH xs i=some v/\Q v H
def Dq (K:PySem.W.Frag):R2:=fun x y H Q=>∃p xs i v,x = .ref p/\y = .int i/\cq K H p xs/\cH xs i=some v/\Q v H
def Ay:R2:=fun x y H Q=>∃z i c,x = .str z/\y = .int i/\z.length<=sizeLine/\cH z.cps.toList i=some c/\Q (.str ⟨#[c]⟩) H
theorem yM:je X (Bb X.K):=by
 intro value slice pins s σ H x y v u Q I rx ry h hs
 obtain⟨p,xs,i,z,rfl,rfl,hq,he,q⟩:=h
 cases rx
 obtain⟨t,rfl⟩:=ry
 obtain⟨its,r,pl,hz⟩:=I.list hq
 obtain⟨j,h1,h2,h3,h4,h5⟩:=lG he
 obtain⟨w,ew,rw'⟩:=r.get h2
 have hl:=r.length
 have hn:=hV
 have fin:EP X pins σ Q w s:=⟨z,H,I,rw',q⟩
 by_cases h0:0<=i
 . have hj:i.toNat=j:=by
    rw [seqIndex_of h0 h5] at h1
    exact Option.some.inj h1
   exact item_listR pl.isList h0 (by omega) (by rw [hj];simpa using ew) fin hs
 . have hj:(i+(its.toArray.size:Int)).toNat=j:=by
    rw [seqIndex_neg (by omega) h4] at h1
    rw [List.size_toArray,<- hl]
    exact Option.some.inj h1
   exact subscriptTail_builtinR (x:=w) pl.isList.typeIs slot_list_getitem.lookup
    (wpAny_getItem_list_neg (Q:=fun r s'=>r=w/\EP X pins σ Q r s') pl.isList (by omega) (by rw [List.size_toArray]<;>omega) (by omega) (by rw [hj];simpa using ew) ⟨rfl,fin⟩) hs
theorem AX:je X (Dq X.K):=by
 intro value slice pins s σ H x y v u Q I rx ry h hs
 obtain⟨p,xs,i,z,rfl,rfl,hq,he,q⟩:=h
 cases rx
 obtain⟨t,rfl⟩:=ry
 obtain⟨its,r,pl,hz⟩:=I.tuple hq
 obtain⟨j,h1,h2,h3,h4,h5⟩:=lG he
 obtain⟨w,ew,rw'⟩:=r.get h2
 have hl:=r.length
 have hn:=hV
 have fin:EP X pins σ Q w s:=⟨z,H,I,rw',q⟩
 exact subscriptTail_builtinR (x:=w) pl.typeIs slot_tuple_getitem.lookup
  (getItem_tuple (j:=j) (Q:=fun r s'=>r=w/\EP X pins σ Q r s') pl (by omega) (by omega) (by rw [List.size_toArray,<- hl];exact h1) (by simpa using ew) ⟨rfl,fin⟩) hs
theorem CJ:je X Ay:=by
 intro value slice pins s σ H x y v u Q I rx ry h hs
 obtain⟨z,i,c,rfl,rfl,hz,he,q⟩:=h
 obtain⟨t,rfl⟩:=rx
 obtain⟨t',rfl⟩:=ry
 obtain⟨j,h1,h2,h3,h4,h5⟩:=lG he
 have hl:z.cps.toList.length=z.length:=by simp [Str.length]
 rw [hl] at h1 h4 h5
 have hn:=hV
 exact tail_any (typeIs_str s z t) slot_str_getitem.lookup (getItem_str (c:=c) (by
  have e1:decide (i < -(2 ^ 63:Int))=false:=decide_eq_false (by omega)
  have e2:decide (i>=2 ^ 63)=false:=decide_eq_false (by omega)
  rw [e1,e2,Bool.or_false]) (by rw [h1];simpa using h2) ⟨.str ⟨#[c]⟩,H,I.tok _,⟨_,rfl⟩,q⟩) hs
def JH (K:PySem.W.Frag):R2:=fun x y H Q=>Bb K x y H Q\/Dq K x y H Q\/Ay x y H Q
theorem uv:je X (JH X.K):=yM.or (AX.or CJ)
theorem qv (its:List Value)(n j:Nat)(u:Value):Obj.mapSeq (·.setIfInBounds j u) { cls:=.type "list",data:=.seq its.toArray n }={ cls:=.type "list",data:=.seq (its.set j u).toArray n }:=by
 simp [Obj.mapSeq]
theorem Inv.lst {pins:List (Addr×Obj)}{σ:St}{H:Hp}{s:Shared}{p:Addr}{xs:List V}(I:Inv X pins σ H s)(h:H p=some (.lst xs)) :
  ∃(its:List Value) (n:Nat),Vals xs its/\s.heap.get? p=some { cls:=.type "list",data:=.seq its.toArray n }/\xs.length<=sizeLine:=by
 obtain⟨z,its,n,r,e⟩:=I.hok p _ h
 exact⟨its,n,r,e,z⟩
theorem Inv.Ap {pins:List (Addr×Obj)}{σ:St}{H:Hp}{s:Shared}{p:Addr}{xs ys:List V}{its its':List Value}{n n':Nat}{f:Obj->Obj}(I:Inv X pins σ H s)(h:H p=some (.lst xs))
  (ho:s.heap.get? p=some { cls:=.type "list",data:=.seq its.toArray n }) (hf:f { cls:=.type "list",data:=.seq its.toArray n }={ cls:=.type "list",data:=.seq its'.toArray n' }) (r:Vals ys its') (hz:ys.length<=sizeLine) (t:Nat) :
  Inv X pins σ (upd H p (.lst ys)) { s with heap:=s.heap.update p f,toks:=t }:=by
 have e:(s.heap.update p f).get? p=some { cls:=.type "list",data:=.seq its'.toArray n' }:=by
  rw [Heap.get?_update_self f ho (by rw [hf]<;>rfl),hf]
 refine I.write (x:=p) (e:=p) (by rw [h];trivial) (.inl rfl) (fun b u hb q=>(Heap.get?_update_other _ _ (Ne.symm hb)).trans q) ⟨_,e⟩ ?_
 exact⟨hz,its',n',r,e⟩
def Dt:V->V->V->Hp->(Hp->Prop)->Prop:=fun o i v H Q=>∃p xs k j,o = .ref p/\i = .int k/\H p=some (.lst xs)/\hG xs.length k=some j/\Q (upd H p (.lst (xs.set j v)))
theorem set_list:wu X Dt:=by
 intro pins s σ H o i v ov iv u Q I ro ri rv h
 obtain⟨p,xs,k,j,rfl,rfl,hp,hj,q⟩:=h
 cases ro
 obtain⟨t,rfl⟩:=ri
 obtain⟨its,n,r,ho,hz⟩:=I.lst hp
 obtain⟨h1,h2,h3,h4⟩:=qp hj
 have hl:=r.length
 have hn:=hV
 have I':Inv X pins σ (upd H p (.lst (xs.set j v))) { s with heap:=s.heap.update p (Obj.mapSeq (·.setIfInBounds j u)) } :=
   I.Ap hp ho (qv its n j u) (r.set rv j) (by rw [List.length_set];exact hz) s.toks
 by_cases h0:0<=k
 . have hk:k.toNat=j:=by
    rw [seqIndex_of h0 h4] at h1
    exact Option.some.inj h1
   exact PySem.W.ki_setAt ho h0 (by omega) (by rw [List.size_toArray,<- hl];exact h4) (by rw [hk];exact⟨_,I',q⟩)
 . have hk:(k+(its.toArray.size:Int)).toNat=j:=by
    rw [seqIndex_neg (by omega) h3] at h1
    rw [List.size_toArray,<- hl]
    exact Option.some.inj h1
   exact PySem.W.ki_setBack ho (by omega) (by rw [List.size_toArray,<- hl];exact h3) (by omega) (by rw [hk];exact⟨_,I',q⟩)
theorem nc (lo hi:Option Int)(n:Nat):(sliceBounds lo hi none n).1=((HT.aU n 0 lo:Nat):Int)/\(sliceBounds lo hi none n).2.1=((HT.aU n n hi:Nat):Int)/\(sliceBounds lo hi none n).2.2=1:=by
 refine⟨?_,?_,rfl⟩
 . cases lo with
   | none=>simp [sliceBounds,HT.aU]
   | some i =>
    simp only [sliceBounds,HT.aU,Option.getD_none,show(1:Int)>0 by decide,if_true]
    by_cases h:i<0
    . simp only [h,if_true]<;>omega
    . simp only [h,if_false]<;>omega
 . cases hi with
   | none=>simp [sliceBounds,HT.aU]
   | some i =>
    simp only [sliceBounds,HT.aU,Option.getD_none,show(1:Int)>0 by decide,if_true]
    by_cases h:i<0
    . simp only [h,if_true]<;>omega
    . simp only [h,if_false]<;>omega
theorem mM (its:List Value)(lo hi:Option Int):slicePick its.toArray lo hi none=((its.drop (HT.aU its.length 0 lo)).take (HT.aU its.length its.length hi-HT.aU its.length 0 lo)).toArray:=by
 obtain⟨h1,h2,h3⟩:=nc lo hi its.toArray.size
 unfold slicePick
 rw [h1,h2,h3]
 simp only [sliceRange_one,pick_run,List.size_toArray]<;>rfl
def Af (K:PySem.W.Frag):V->Option Int->Option Int->Hp->VK->Prop:=fun x lo hi H Q=>∃a xs,x = .ref a/\cw K H a xs /\ ∀p,H p=none->Q (.ref p) (upd H p (.lst (jk xs lo hi)))
theorem yG:jN X (Af X.K):=by
 intro pins s σ H x v vl vu lo hi sl Q I rx hs pl pu h
 obtain⟨a,xs,rfl,hx,q⟩:=h
 cases rx
 obtain⟨its,r,ht,hz⟩:=I.list hx
 have hlen:=r.length
 refine⟨"list",_,slot_list_getitem.lookup,ht.isList.typeIs,?_⟩
 refine wpAny_getItem_list_slice ht.isList hs pl pu .none (by simp) ?_ (by rw [List.size_toArray]<;>omega)
 rw [mM,<- hlen]
 refine⟨.ref s.heap.objs.size,_,I.laid (t':=s.toks) (o:=.lst (jk xs lo hi)) (fun b ob q=>Heap.get?_push_of_some _ q) (Nat.le_refl _) ?_,rfl,q _ (I.hok.fresh (Nat.le_refl _))⟩
 exact⟨Nat.le_trans (jR xs lo hi) hz,_,0,(r.drop (HT.aU xs.length 0 lo)).take (HT.aU xs.length xs.length hi-HT.aU xs.length 0 lo),Heap.get?_push_size _ rfl⟩
theorem nh:ck X (.builtin "len") (fun xs H Q=>∃p ys,xs = [.ref p]/\(cw X.K H p ys\/cq X.K H p ys)/\Q (.int ys.length) H):=by
 intro pins s σ H xs us Q I r h
 obtain⟨p,ys,rfl,hq,q⟩:=h
 obtain⟨u,rfl,rx⟩:=vals1 r
 cases rx
 have hn:=hV
 rcases hq with hq | hq
 . obtain⟨its,r',pl,hz⟩:=I.list hq
   have hlen:=r'.length
   exact Calls.call_len_list pl.isList (by simp only [List.size_toArray]<;>omega) ⟨.int ys.length,H,I.tok _,⟨s.toks+1,by rw [List.size_toArray,hlen]⟩,q⟩
 . obtain⟨its,r',pl,hz⟩:=I.tuple hq
   have hlen:=r'.length
   exact len_tuple pl (by simp only [List.size_toArray]<;>omega) ⟨.int ys.length,H,I.tok _,⟨s.toks+1,by rw [List.size_toArray,hlen]⟩,q⟩
theorem iI:ck X (.type "tuple") (fun xs H Q=>∃p ys,xs = [.ref p]/\((cw X.K H p ys /\ ∀l,H l=none->Q (.ref l) (upd H l (.tup ys)))\/(cq X.K H p ys/\Q (.ref p) H))):=by
 intro pins s σ H xs us Q I r h
 obtain⟨p,ys,rfl,h⟩:=h
 obtain⟨u,rfl,rx⟩:=vals1 r
 cases rx
 rcases h with⟨hq,q⟩ | ⟨hq,q⟩
 . obtain⟨its,r',pl,hz⟩:=I.list hq
   have hlen:=r'.length
   refine call_tuple_list pl.isList (fun h' kp=>?_) (by simp only [List.size_toArray]<;>omega)
   have I1:Inv X pins σ H { s with heap:=h' }:=I.kept (t':=s.toks) kp
   have I2:Inv X pins σ (upd H h'.objs.size (.tup ys)) { s with heap:=h'.push { cls:=.type "tuple",data:=.seq its.toArray } } :=
    I1.laid (t':=s.toks) (fun b o e=>Heap.get?_push_of_some _ e) (Nat.le_refl _) (show cD X.prog X.w _ _ _ (.tup ys) from⟨hz,its,r',cN.new _ _⟩)
   exact⟨.ref h'.objs.size,_,I2,rfl,q _ (I1.hok.fresh (Nat.le_refl _))⟩
 . obtain⟨its,r',pl,hz⟩:=I.tuple hq
   exact call_tuple_same pl ⟨.ref p,H,I,rfl,q⟩
def JB (K:PySem.W.Frag)(T:String)(x:V)(H:Hp):Prop:=match x with
 | .str _=>T = "str"
 | .int _=>T = "int"
 | .ref p=>(T = "list" /\ ∃xs,cw K H p xs)\/(T = "tuple" /\ ∃o,K.lookup p=some o/\o.cls = .type "tuple" /\ o.dict=none) \/
  (T = "dict" /\ ((∃kvs,H p=some (.dK kvs)) \/ ∃kvs,H p=some (.dT kvs)))\/(T = "set" /\ ∃S n,H p=some (.set S n))
 | _=>False
theorem CI {pins:List (Addr×Obj)}{σ:St}{H:Hp}{s:Shared}{T:String}{x:V}{v:Value}(I:Inv X pins σ H s)(r:RelV x v)(ty:JB X.K T x H) :
  s.TypeIs v T /\ ∀a,v = .ref a->∃ob,s.heap.get? a=some ob/\ob.dict=none:=by
 cases x with
 | str z =>
  obtain⟨t,rfl⟩:=r
  cases (show T = "str" from ty)
  exact⟨typeIs_str s z t,fun _ e=>nomatch e⟩
 | int i =>
  obtain⟨t,rfl⟩:=r
  cases (show T = "int" from ty)
  exact⟨typeIs_int s i t,fun _ e=>nomatch e⟩
 | ref p =>
  cases r
  rcases ty with⟨rfl,xs,hq⟩ | ⟨rfl,o,hk,hc,hd⟩ | ⟨rfl,hk⟩ | ⟨rfl,S,n,hk⟩
  . obtain⟨its,_,pl,_⟩:=I.list hq
    refine⟨pl.isList.typeIs,fun a e=>?_⟩
    cases e
    obtain⟨o,n,e,c,hd,_⟩:=pl
    exact⟨o,e,hd⟩
  . refine⟨⟨o,I.fN p o hk,hc⟩,fun a e=>?_⟩
    cases e
    exact⟨o,I.fN _ o hk,hd⟩
  . have z:∃o,s.heap.get? p=some o/\o.ExactDict:=by
     rcases hk with⟨kvs,hk⟩ | ⟨kvs,hk⟩
     . obtain⟨_,_,_,_,o,_,_,e,ex,_⟩:=I.hok p _ hk
       exact⟨o,e,ex⟩
     . obtain⟨_,_,_,_,o,_,_,e,ex,_⟩:=I.hok p _ hk
       exact⟨o,e,ex⟩
    obtain⟨o,e,ex⟩:=z
    refine⟨⟨o,e,ex.1⟩,fun a e2=>?_⟩
    cases e2
    exact⟨o,e,ex.2.1⟩
  . obtain⟨o,_,_,_,e,ex,_⟩:=I.hok p _ hk
    refine⟨⟨o,e,ex.1⟩,fun a e2=>?_⟩
    cases e2
    exact⟨o,e,ex.2.1⟩
 | _=>exact False.elim ty
variable {o e:Expr}{es:List Expr}{to:TE}{t:TA}{name:Str}{apos cpos:Pos}{T id:String}{r:V->List V->Hp->VK->Prop}
end
def zV (X:Cx)(id:String)(r:V->List V->Hp->VK->Prop):Prop :=
 ∀(pins:List (Addr×Obj)) (s:Shared) (σ:St) (H:Hp) (x:V) (xs:List V) (v:Value) (us:List Value) (Q:VK),Inv X pins σ H s->RelV x v->Vals xs us->r x xs H Q ->
  wpAny (model X.prog X.w) X.A (call (.builtin id) (v::us)) (EP X pins σ Q) X.xe s
theorem Vals.one:∀{x:V} {us:List Value},Vals [x] us->∃u,us = [u]/\RelV x u
 | _,_,.cons r .nil=>⟨_,rfl,r⟩
theorem Vals.zero:∀{us:List Value},Vals [] us->us = []
 | _,.nil=>rfl
theorem Vals.dropLast {xs:List V}{us:List Value}(h:Vals xs us):Vals xs.dropLast us.dropLast:=by
 induction h with
 | nil=>exact .nil
 | cons r t ih =>
  cases t with
  | nil=>exact .nil
  | cons q t'=>exact .cons r ih
theorem Vals.eraseIdx:∀{xs:List V} {us:List Value} (i:Nat),Vals xs us->Vals (xs.eraseIdx i) (us.eraseIdx i)
 | _,_,_,.nil=>.nil
 | _,_,0,.cons _ t=>t
 | _,_,i+1,.cons r t=>.cons r (Vals.eraseIdx i t)
theorem Vals.rep {xs:List V}{us:List Value}(h:Vals xs us):∀k:Nat,Vals (List.replicate k xs).flatten (List.replicate k us).flatten
 | 0=>.nil
 | k+1=>by
  rw [List.replicate_succ,List.replicate_succ,List.flatten_cons,List.flatten_cons]
  exact Vals.append h (Vals.rep h k)
theorem rX {α:Type}(l:List α):l.eraseIdx (l.length-1)=l.dropLast:=by
 induction l with
 | nil=>rfl
 | cons a r ih =>
  cases r with
  | nil=>rfl
  | cons b r =>
   have e:(a::b::r).length-1=((b::r).length-1)+1:=by
    have h1:(a::b::r).length=r.length+2:=rfl
    have h2:(b::r).length=r.length+1:=rfl
    omega
   rw [e,List.eraseIdx_cons_succ,ih]
   all_goals rfl
theorem mG {α:Type}:∀(l:List α) (i:Nat),(l.eraseIdx i).length<=l.length
 | [],_=>Nat.le_refl _
 | _::_,0=>Nat.le_succ _
 | _::r,i+1=>Nat.succ_le_succ (mG r i)
theorem foldl_rep (its:List Value):∀(k:Nat) (acc:List Value),
  List.foldl (fun x1 x2=>x1++x2) acc.toArray (List.replicate k its.toArray)=(acc++(List.replicate k its).flatten).toArray
 | 0,acc=>by simp
 | k+1,acc=>by
  have e:acc.toArray++its.toArray=(acc++its).toArray:=by simp
  have e2:(acc++its)++(List.replicate k its).flatten=acc++(List.replicate (k+1) its).flatten:=by
   rw [List.replicate_succ,List.flatten_cons,List.append_assoc]
  rw [<- e2,<- foldl_rep its k (acc++its),<- e,List.replicate_succ,List.foldl_cons]
section
variable {X:Cx}{pins:List (Addr×Obj)}{σ:St}{H:Hp}{s:Shared}{l b:Addr}{xs ys zs:List V}
theorem Inv.vN {its its':List Value}{n:Nat}{f:Array Value->Array Value}{t':Nat}(I:Inv X pins σ H s)(hH:H l=some (.lst xs))
  (e:s.heap.get? l=some { cls:=.type "list",data:=.seq its.toArray n }) (hf:f its.toArray=its'.toArray) (hv:Vals ys its') (hz:ys.length<=sizeLine) :
  Inv X pins σ (upd H l (.lst ys)) { s with heap:=s.heap.update l (Obj.mapSeq f),toks:=t' }:=by
 have q:=PySem.IsL.update e f
 rw [hf] at q
 refine I.write (x:=l) (e:=l) (by rw [hH];exact trivial) (.inl rfl) (fun b' u hb hu=>(Heap.get?_update_other s.heap (Obj.mapSeq f) (Ne.symm hb)).trans hu) ⟨_,q⟩ ?_
 exact⟨hz,its',_,hv,q⟩
theorem Inv.Gu {its:List Value}{t':Nat}(I:Inv X pins σ H s)(hv:Vals ys its)(hz:ys.length<=sizeLine) :
  Inv X pins σ (upd H s.heap.objs.size (.lst ys)) { s with heap:=s.heap.push { cls:=.type "list",data:=.seq its.toArray },toks:=t' } :=
 I.laid (fun _ _ q=>Heap.get?_push_of_some _ q) (Nat.le_refl _) ⟨hz,its,0,hv,Heap.get?_push_size _ rfl⟩
theorem Inv.fresh (I:Inv X pins σ H s):H s.heap.objs.size=none:=I.hok.fresh (Nat.le_refl _)
theorem Inv.ve (I:Inv X pins σ H s)(hH:H l=some (.lst xs)):xs.length<=sizeLine /\ ∃(its:List Value) (n:Nat),Vals xs its/\xs.length=its.length/\s.heap.get? l=some { cls:=.type "list",data:=.seq its.toArray n }:=by
 obtain⟨z,its,n,r,e⟩:=I.hok l _ hH
 exact⟨z,its,n,r,r.length,e⟩
end
section
variable {X:Cx}
def zG:V->List V->Hp->VK->Prop:=fun x vs H Q=>∃l xs y,x = .ref l/\vs = [y]/\H l=some (.lst xs)/\xs.length<sizeLine/\Q .non (upd H l (.lst (xs ++ [y])))
theorem gE:zV X "list.append" zG:=by
 intro pins s σ H x vs v us Q I rx rv h
 obtain⟨l,xs,y,rfl,rfl,hH,hz,q⟩:=h
 cases rx
 obtain⟨u,rfl,ru⟩:=rv.one
 obtain⟨z,its,n,r,hl,e⟩:=I.ve hH
 refine call_meets F.slot_list_append ⟨_,e,rfl⟩ F.entry_list_append (F.args_list_append_2 _ _) (PySem.list_append l its.toArray n u (by rw [List.size_toArray];omega)) ⟨e,?_⟩
 refine⟨.non,_,I.vN (its':=its ++ [u]) hH e (by simp) (r.append (.cons ru .nil)) ?_,rfl,q⟩
 rw [List.length_append,List.length_singleton]
 omega
def GC:V->List V->Hp->VK->Prop:=fun x vs H Q=>∃l xs y,x = .ref l/\vs = []/\H l=some (.lst xs)/\xs[xs.length-1]? = some y/\Q y (upd H l (.lst xs.dropLast))
theorem B3:zV X "list.pop" GC:=by
 intro pins s σ H x vs v us Q I rx rv h
 obtain⟨l,xs,y,rfl,rfl,hH,hy,q⟩:=h
 cases rx
 have hus:=rv.zero
 subst hus
 obtain⟨z,its,n,r,hl,e⟩:=I.ve hH
 obtain⟨u,hu,ru⟩:=r.get hy
 have hy':its.toArray[its.toArray.size-1]? = some u:=by
   show its.toArray[its.length-1]? = some u
   rw [<- Array.getElem?_toList,<- hl]
   exact hu
 refine call_meets F.slot_list_pop ⟨_,e,rfl⟩ F.entry_list_pop (F.args_list_pop_1 _) (MeetsSeq.list_pop_last l its.toArray n u hy' (by rw [List.size_toArray];omega)) ⟨e,?_⟩
 refine⟨y,_,I.vN (its':=its.dropLast) hH e ?_ r.dropLast ?_,ru,q⟩
 . show its.toArray.eraseIdxIfInBounds (its.toArray.size-1)=its.dropLast.toArray
   rw [List.size_toArray,List.eraseIdxIfInBounds_toArray,rX]
 . rw [List.length_dropLast]
   omega
def Bu:V->List V->Hp->VK->Prop:=fun x vs H Q=>∃l xs i k y,x = .ref l/\vs = [.int i]/\H l=some (.lst xs) /\ -(2 ^ 63)<=i/\i<2 ^ 63/\seqIndex? i xs.length=some k/\xs[k]? = some y/\Q y (upd H l (.lst (xs.eraseIdx k)))
theorem vP:zV X "list.pop" Bu:=by
 intro pins s σ H x vs v us Q I rx rv h
 obtain⟨l,xs,i,k,y,rfl,rfl,hH,h1,h2,hk,hy,q⟩:=h
 cases rx
 obtain⟨u,rfl,ru⟩:=rv.one
 obtain⟨t,rfl⟩:=ru
 obtain⟨z,its,n,r,hl,e⟩:=I.ve hH
 obtain⟨w,hw,rw'⟩:=r.get hy
 refine call_meets F.slot_list_pop ⟨_,e,rfl⟩ F.entry_list_pop (F.args_list_pop_2 _ _)
   (MeetsSeq.list_pop_at l its.toArray n i t k w (fitsIndex_both h1 h2) (by rw [List.size_toArray,<- hl];exact hk) (by rw [<- Array.getElem?_toList];exact hw) (by rw [List.size_toArray];omega)) ⟨e,?_⟩
 refine⟨y,_,I.vN (its':=its.eraseIdx k) hH e ?_ (r.eraseIdx k) ?_,rw',q⟩
 . show its.toArray.eraseIdxIfInBounds k=(its.eraseIdx k).toArray
   rw [List.eraseIdxIfInBounds_toArray]
 . have:=mG xs k
   omega
theorem len_rep {α:Type}(xs:List α)(k:Nat):(List.replicate k xs).flatten.length=k*xs.length:=by
 induction k with
 | zero=>simp
 | succ k ih=>rw [List.replicate_succ,List.flatten_cons,List.length_append,ih,Nat.succ_mul,Nat.add_comm]
end
end L2
namespace uJ
open PySem PySem.W PySem.Calls PyProof.Rows
theorem kz {P:Params}{h:Heap}:∀(ns:List Int) (vs:List Value),WellAll P h vs (ns.map WData.int)->IntsAre vs ns:=by
 intro ns
 induction ns with
 | nil =>
  intro vs w
  rw [List.map_nil] at w
  cases w
  exact .nil
 | cons n ns ih =>
  intro vs w
  rw [List.map_cons] at w
  cases w with
  | cons a b =>
   cases a
   exact .cons _ _ (ih _ b)
theorem ux {l:OpenLaw}{n:Nat}(hn:l.most=some n){P:Params}{h:Heap}{args:List WData}{vals:List Value}
  (hpre:l.row.toRowW.claim.pre args=true) (hwl:WellAll P h vals args) :
  ∃a vs ns,vals = [Value.ref a]/\args = [WData.list (ns.map WData.int)]/\h.get? a=some { cls:=.type "list",data:=.seq vs.toArray }/\IntsAre vs ns/\ns.length<=n:=by
 have hsh:WShape.hasAll [] args [.list .int]=true:=(pre_splitW hpre).1
 have hc:l.pre.holds [] { args:=args }=true:=(pre_splitW hpre).2
 obtain⟨d,r,rfl,h1,h2⟩:=hasAllW_cons hsh
 obtain rfl:=hasAllW_nil h2
 obtain⟨xs,rfl,h3⟩:=hasW_list h1
 obtain⟨ns,rfl⟩:=items_int h3
 have hlen:ns.length<=n:=by
  unfold OpenLaw.pre at hc
  have h4:(WTm.not (.lt (.lit (.int (n:Int))) (.len (.arg 0)))).holds [] { args:=[.list (ns.map .int)] }=true:=by
   have h4:=(holds_andW hc).1
   rw [hn] at h4
   exact h4
  have h5:=condW_of h4 (w_not (w_lt w_lit (w_len_list (w_arg rfl))))
  rw [List.length_map] at h5
  refine Nat.le_of_not_lt fun q=>?_
  have q':(n:Int)<((ns.length:Nat):Int):=by omega
  first
   | (rw [decide_eq_true q'] at h5;exact absurd h5 (by decide))
   | (simp at h5;omega)
 cases hwl with
 | cons w1 w2 =>
  cases w2
  cases w1 with
  | list ho hall=>exact⟨_,_,ns,rfl,rfl,ho,kz ns _ hall,hlen⟩
theorem tX (l:OpenLaw)(args:List WData):l.row.toRowW.claim.post args (.bool true) args=true :=
 postW_of (r:=l.row.toRowW) (X:=(true == true))
  (show WShape.has [] (.bool true) .bool=true by first | rfl | decide | simp [WShape.has,WShape.arms,WShape.armsAll])
  (show(WTm.eq .res (.lit (.bool true))).value [] { args:=args,res:=some (.bool true),after:=args }=some (.bool (true == true)) from w_eq_bool (w_res rfl) w_lit) rfl
theorem pf {l:OpenLaw}{n:Nat}{q:Program}{loose:List Str}{XP:(Str->Option Value)->Heap->Prop}{YP:World->Heap->Prop}{d:DefRec}
  (hn:l.most=some n) (hdf:d.params.defaults = [])
  (call:∀(w:World) (s₀ s₁:Shared) (mg mb:Str->Option Value) (fa:Addr) (o:Obj) (pm cd doc:Value) (a:Addr) (vs:List Value) (ns:List Int),
   Ground q loose [] XP w s₀ mg mb s₁.heap->YP w s₁.heap ->
   s₁.heap.get? fa=some o->o.data = .func (docDef d.name d.params d.body d.scope pm cd doc)->s₁.heap.CodeRec cd d.name->mg d.name=some (.ref fa) ->
   s₁.heap.get? a=some { cls:=.type "list",data:=.seq vs.toArray }->IntsAre vs ns->ns.length<=n->s₁.gens = #[] ->
   codeAny (model l.prog w) callerA (.call (.ref fa) ⟨[.ref a],[]⟩) (fun r s'=>r = .ok (.ret (.bool true))/\OldK s₁.heap s'.heap/\s'.os=s₁.os/\AllBare s'.gens) s₁) :
  WalkO q loose XP YP l.row.toRowW d [] (fun f vs=>PySem.call f vs):=by
 intro w s₀ s₁ mg mb G Y fa o pm cd doc dV kV ho hd hcd hD hmg hg args vals as hpre hlay hrd hwl hlo
 obtain rfl:dV = .none:=Dflts.none hD hdf
 obtain rfl:kV = .none:=Dflts.noKw hD
 obtain⟨a,vs,ns,rfl,rfl,hobj,hints,hlen⟩:=ux hn hpre hwl
 refine enter_call (codeAny_mono (call w s₀ s₁ mg mb fa o pm cd doc a vs ns G Y ho (fd_plain hd) hcd hmg hobj hints hlen hg) fun r s' hq=>?_)
 obtain⟨rfl,h2,h3,h4⟩:=hq
 exact⟨.inl ⟨.bool true,.bool true,[],rfl,fun _=>rfl,.bool true,tX l _,fun _=>⟨List.Pairwise.nil,fun _ hm=>(nomatch hm)⟩⟩,h2,h3,h4⟩
end uJ
namespace L2
open PySem PySem.Spec PyProof.Rows
theorem mw:∀{vs:List Value} {ns:List Int},IntsAre vs ns->Vals (ns.map V.int) vs
 | _,_,.nil=>.nil
 | _,_,.cons n t h=>.cons ⟨t,rfl⟩ (mw h)
def wk (H:Hp):Prop:=∀b,H b=none \/ ∃o xs,H b=some (.frz o (.lst xs))
theorem vz {P:Program}{w:World}{K:PySem.W.Frag}{mg mb:Str->Option Value}{CX:iP}{k:Nat}{fa a:Addr}{fd:FuncData}{x:Str}{sp:Sp}{s₁:Shared}{vs:List Value}{ns:List Int}
  (KX:K.In s₁.heap) (hns:s₁.heap.Ns mainGlobals mg) (hb:s₁.heap.Ns builtinsNs mb) (hbb:∀x:Str,x ≠ "__name__"->mb x=bootBuiltins x) (hlim:s₁.heap.NoLimit) (hg:s₁.gens = #[])
  (ha:s₁.heap.get? a=some { cls:=.type "list",data:=.seq vs.toArray }) (hi:IntsAre vs ns) (hl:ns.length<=sizeLine) (hr:aC k callerA)
  (F:∀base:Heap,K.In base->base.Ns mainGlobals mg->cL P w K mg base CX k fa fd [x] sp) (hbind:∀(s:Shared) (u:Value),BindsTo s fd ⟨[u],[]⟩ [(x,u)])
  (hsp:∀H:Hp,wk H->cw K H a (ns.map V.int)->sp [.ref a] H (fun v _=>v = .bl true) fun _ _ _=>False)
  (hCX:∀H e s',CX [] H s₁ (fun _ _ _=>False) e s'->False) :
  codeAny (model P w) callerA (.call (.ref fa) ⟨[.ref a],[]⟩) (fun r s'=>r = .ok (.ret (.bool true))/\OldK s₁.heap s'.heap/\s'.os=s₁.os/\AllBare s'.gens) s₁:=by
 have rv:=mw hi
 have lenV:=hi.length
 have core:∀H:Hp,wk H->cw K H a (ns.map V.int)->dz P w H s₁.heap->(∀b,H b≠none->b=a)->(H a≠none->K.lookup a=none) ->
    codeAny (model P w) callerA (.call (.ref fa) ⟨[.ref a],[]⟩) (fun r s'=>r = .ok (.ret (.bool true))/\OldK s₁.heap s'.heap/\s'.os=s₁.os/\AllBare s'.gens) s₁:=by
  intro H hO hS hok hA hK
  have base_of:∀{b:Addr} {o:Obj},s₁.heap.get? b=some o->H b=none->(iy s₁.heap H).get? b=some o:=fun e n=>vK e n
  have noA:∀{b:Addr} {o:Obj} {es:Array DictEntry} {ep:Nat},s₁.heap.get? b=some o->o.data = .dict es ep->H b=none:=fun {b o es ep} e d=>by
    cases q:H b with
    | none=>rfl
    | some u =>
      have e':b=a:=hA b (by rw [q];simp)
      subst e'
      rw [ha] at e;cases e
      have d':Data.seq vs.toArray _=Data.dict es ep:=d
      cases d'
  have nsK:∀{b:Addr} {m:Str->Option Value},s₁.heap.Ns b m->(iy s₁.heap H).Ns b m:=fun {b m} ⟨o,es,ep,e,d,r⟩=>⟨o,es,ep,base_of e (noA e d),d,r⟩
  have hKb:K.In (iy s₁.heap H):=fun b o e=>base_of (KX b o e) (by
    cases q:H b with
    | none=>rfl
    | some u =>
      have e':b=a:=hA b (by rw [q];simp)
      subst e'
      rw [hK (by rw [q];simp)] at e;cases e)
  have hM:Mod K mg (iy s₁.heap H):=⟨hKb,nsK hns,⟨mb,nsK hb,hbb⟩,let⟨mc,h1,h2⟩:=hlim;⟨mc,nsK h1,h2⟩⟩
  have e0:rT P w K mg (iy s₁.heap H) callerA [] s₁ H:=⟨rfl,hM,fun b o e=>x6 e,Nat.le_of_eq (ub _ _),trivial,fun b hb=>absurd (show b∈([]:List Addr) from hb) (by simp),hok,.of_eq hg⟩
  refine codeAny_mono ((F _ hKb (nsK hns)).run callerA [] s₁ H ⟨[.ref a],[]⟩ [.ref a] [.ref a] _ _ hr e0 (hbind s₁ (.ref a)) (.cons rfl .nil) (hsp H hO hS)) fun r s' h=>?_
  cases r with
  | error e=>exact(hCX H e s' h).elim
  | ok fl =>
    cases fl with
    | next=>exact False.elim h
    | brk=>exact False.elim h
    | cont=>exact False.elim h
    | ret u =>
      obtain⟨v,H',os,bare,un,hok',r',q⟩:=h
      have q':v = .bl true:=q
      subst q'
      obtain rfl:u=Value.bool true:=r'
      refine⟨rfl,OldK.of_keep fun b o e=>?_,os,bare⟩
      cases q:H b with
      | none=>exact un.keep b o e q (by intro z;exact absurd (show b∈([]:List Addr) from z) (by simp)) (by simp)
      | some u =>
       rcases hO b with z | ⟨ob,xs,z⟩
       . rw [q] at z;cases z
       . have z2:=un.frzs b ob _ z
         obtain⟨e1,_⟩:=hok b _ z
         obtain⟨e2,_⟩:=hok' b _ z2
         rw [e] at e1;cases e1
         exact e2
 cases hk:K.lookup a with
 | some o =>
  have e:=KX a o hk
  rw [ha] at e
  cases e
  refine core (fun _=>none) (fun _=>.inl rfl) (.inr ⟨_,vs.toArray,_,hk,rfl,rfl,rfl,by rw [List.size_toArray,lenV];exact hl,by simpa using rv⟩) (fun b u z=>by have z':(none:Option HO)=some u:=z;cases z') (fun b z=>absurd rfl z) fun z=>absurd rfl z
 | none =>
  refine core (fun b=>if b=a then some (.frz { cls:=.type "list",data:=.seq vs.toArray } (.lst (ns.map V.int))) else none) (fun b=>?_) (.inl (.inr ⟨{ cls:=.type "list",data:=.seq vs.toArray },if_pos rfl⟩)) (fun b u z=>?_) (fun b z=>?_) fun _=>hk
  . by_cases hb:b=a
    . exact .inr ⟨_,_,if_pos hb⟩
    . exact .inl (if_neg hb)
  . by_cases hb:b=a
    . have z':=(if_pos hb).symm.trans z
      cases z'
      subst hb
      exact⟨ha,by rw [List.length_map];exact hl,vs,_,rv,ha⟩
    . have z':=(if_neg hb).symm.trans z
      cases z'
  . by_cases hb:b=a
    . exact hb
    . exact absurd (if_neg hb) z
theorem y_ {l:PySem.W.OpenLaw}{n k:Nat}{q:Program}{loose:List Str}{XP:(Str->Option Value)->Heap->Prop}{YP:World->Heap->Prop}{d:DefRec}{K:Params->PySem.W.Frag}{CX:World->iP}{sp:World->Sp}{x:Str}
  (hn:l.most=some n) (hn2:n<=sizeLine) (hdf:d.params.defaults = []) (hr:aC k callerA)
  (hY:∀(w:World) (h:Heap),YP w h->(K w.params).In h)
  (F:∀(w:World) (mg:Str->Option Value) (fa:Addr) (h:Heap),(K w.params).In h->h.Ns mainGlobals mg->mg d.name=some (.ref fa) ->
   ∃fd:FuncData,(∀(s:Shared) (u:Value),BindsTo s fd ⟨[u],[]⟩ [(x,u)]) /\
    ∀base:Heap,(K w.params).In base->base.Ns mainGlobals mg->cL l.prog w (K w.params) mg base (CX w) k fa fd [x] (sp w))
  (hsp:∀(w:World) (H:Hp) (a:Addr) (ns:List Int),ns.length<=n->wk H->cw (K w.params) H a (ns.map V.int)->sp w [.ref a] H (fun v _=>v = .bl true) fun _ _ _=>False)
  (hCX:∀(w:World) (H:Hp) (s:Shared) (e:Value) (s':Shared),CX w [] H s (fun _ _ _=>False) e s'->False) :
  PySem.W.WalkO q loose XP YP l.row.toRowW d [] (fun f vs=>PySem.call f vs):=by
 refine uJ.pf hn hdf fun w s₀ s₁ mg mb fa o pm cd doc a vs ns G Y ho hd hcd hmg hobj hints hlen hg=>?_
 have KX:=hY w _ Y
 obtain⟨fd,hb,hF⟩:=F w mg fa _ KX G.T.g hmg
 exact vz KX G.T.g G.T.b G.T.builtins G.T.nolimit hg hobj hints (Nat.le_trans hlen hn2) hr hF hb (fun H hO hS=>hsp w H a ns hlen hO hS) fun H e s'=>hCX w H s₁ e s'
def fV (s:Stmt):Arguments:=match s with
 | .FunctionDef _ a _ _ _ _ _ _ _ _=>a
 | _=>{ posonlyargs:=[],args:=[],vararg:=none,kwonlyargs:=[],kw_defaults:=[],kwarg:=none,defaults:=[] }
def df (s:Stmt):List Stmt:=match s with
 | .FunctionDef _ _ b _ _ _ _ _ _ _=>b
 | _=>[]
def bj (s:Stmt):Scope:=match s with
 | .FunctionDef _ _ _ _ _ _ sc _ _ _=>sc
 | _=>{ kind:=.function,names:=[],isGenerator:=false,isCoroutine:=false }
abbrev fM:iP:=fun _ _ _ _ _ _=>False
abbrev E0:XK:=fun _ _ _=>False
theorem xP {X:Cx}:Passes fM X E0:=fun _ _ _ _ _ _ _ h=>h.elim
structure qg (K:PySem.W.Frag)(x qual:Str)(st:Stmt)(f:Addr)(fd:FuncData):Prop where
 ex:∃(oc:Value) (od:Option Addr) (kV doc pm:Value) (an:Option Addr) (cdv ct:Value) (osl:Array (Option Value)),
  fd=PySem.W.fnOf x qual (fV st) (df st) (bj st) .none kV doc pm an cdv ct/\K.lookup f=some ⟨oc,od,.func fd,osl⟩/\PySem.W.codeIn K cdv qual=true
 kp:PySem.W.keepIn K (.ref f)=true
section
variable {P:Program}{w:World}{K:PySem.W.Frag}{mg:Str->Option Value}{base:Heap}
theorem qg.ok {x qual:Str}{st:Stmt}{f:Addr}{fd:FuncData}{N ps:List Str}{k:Nat}{sp:Sp}(F:qg K x qual st f fd)(S:fU N ps (bj st))(len:∀vs H Q E,sp vs H Q E->vs.length=ps.length)
  (hbody:∀(cdv:Value) (A:Around) (outer:List Env) (s:Shared) (H:Hp) (vs:List V) (Q:VK) (E:XK),aC k (A.deeper (envOfC qual (bj st) s.heap.objs.size f cdv))->sp vs H Q E ->
   ∃t,eL (ja fM P w K mg base N qual (bj st) f cdv A outer s H E).qr (df st) t/\t { nx:=fun _ H'=>Q .non H',rt:=Q } (start N vs) H):cL P w K mg base fM (k+1) f fd ps sp:=by
 obtain⟨oc,od,kV,doc,pm,an,cdv,ct,osl,rfl,lk,hcd⟩:=F.ex
 refine D7 lk hcd S len fun A outer s H vs Q E hr hsp=>?_
 obtain⟨t,h,q⟩:=hbody cdv A outer s H vs Q E hr hsp
 exact⟨t,h.qr,q⟩
theorem Cc {x qual:Str}{st:Stmt}{f:Addr}{oc:Value}{od an:Option Addr}{osl:Array (Option Value)}{kV doc pm cdv ct:Value}(l:K.lookup f=some ⟨oc,od,.func (PySem.W.fnOf x qual (fV st) (df st) (bj st) .none kV doc pm an cdv ct),osl⟩)
 (c:PySem.W.codeIn K cdv qual=true) (k:PySem.W.keepIn K (.ref f)=true):qg K x qual st f (PySem.W.fnOf x qual (fV st) (df st) (bj st) .none kV doc pm an cdv ct):=⟨⟨oc,od,kV,doc,pm,an,cdv,ct,osl,rfl,l,c⟩,k⟩
end
end L2
namespace L3
open PySem PySem.Spec PyProof.Rows L2
inductive D where
 | non | bl (b:Bool) | int (i:Int) | str (x:Str) | tup (xs:List D) | lst (xs:List D) | edc | ref (n:Nat) | aQ (n:Nat) | fn (x:Str)
structure KW where
 fr:PySem.W.Frag
 w:World
 mg:Str->Option Value
instance:Coe KW PySem.W.Frag:=⟨KW.fr⟩
abbrev _root_.L2.Cx.kw (X:L2.Cx):KW:=⟨X.K,X.w,X.mg⟩
abbrev G:=List (List D)
abbrev Sg:=List (Option D)
structure Ix where
 ix:List Addr
 hd:List Addr
 kd:Nat->Nat
def kb:Nat->Bool
 | 0=>false
 | _+1=>true
def cW (ι:Ix)(n:Nat)(a:Addr)(b:Bool):Prop:=ι.ix[n]? = some a/\kb (ι.kd n)=b
def Ix.more (ι:Ix)(p:Addr)(b:Nat):Ix:=⟨ι.ix ++ [p],ι.hd,fun i=>if i=ι.ix.length then b else ι.kd i⟩
mutual
def bh:Nat->D->Bool
 | _,.non=>true
 | _,.int _=>true
 | _,.str _=>true
 | n+1,.tup xs=>di n xs
 | _,_=>false
def di:Nat->List D->Bool
 | _,[]=>true
 | n,d::ds=>bh n d&&di n ds
end
mutual
def hD (w:World):D->Int
 | .int i=>hashInt i
 | .str x=>hashStr w x
 | .non=>reduceHash 0xFCA86420
 | .tup xs=>reduceHash (Builtin.Tuple.tupleHashOf (sM w xs))
 | _=>0
def sM (w:World):List D->List Int
 | []=>[]
 | d::ds=>hD w d::sM w ds
end
def dO (a:Addr)(es:List DictEntry)(c:Nat):HO:=.ext fun h=>h.get? a=some { cls:=.type "dict",data:=.dict es.toArray (es.length-c) }
def fR:List DictEntry->List Value
 | []=>[]
 | e::es=>e.key::e.val::fR es
def aO:List D->List D
 | k::_::r=>k::aO r
 | _=>[]
inductive gv (w:World):List D->List DictEntry->Prop
 | nil:gv w [] []
 | cons {k v:D} {r:List D} {e:DictEntry} {es:List DictEntry}:bh 6 k=true->e.hash=hD w k->gv w r es->gv w (k::v::r) (e::es)
inductive OV (K:KW)(a:Addr)(xs:List D):Nat->HO->List V->Prop
 | l (vs:List V):OV K a xs 0 (.lst vs) vs
 | d (c:Nat) (es:List DictEntry) (vs:List V):c<=es.length->Vals vs (fR es)->gv K.w xs es->(aO xs).Nodup->(a == sysModules)=false->es.length<=sizeLine->OV K a xs (c+1) (dO a es c) vs
def iR (K:KW)(H:Hp)(ι:Ix)(a:Addr)(xs:List V):Prop :=
 (Rd H a (.lst xs)/\a ∉ ι.ix/\a ∉ ι.hd) \/
  ∃(o:Obj) (its:Array Value) (n:Nat),K.fr.lookup a=some o/\o.cls = .type "list" /\ o.dict=none/\o.data = .seq its n/\its.size<=sizeLine/\Vals xs its.toList
theorem iR.sq {K H ι a xs}(h:iR K H ι a xs):cw K H a xs:=by
 rcases h with⟨h,_⟩ | h
 . exact .inl h
 . exact .inr h
def ic (K:KW)(H:Hp)(ι:Ix)(a:Addr)(xs:List V):Prop :=
 (Rd H a (.tup xs)/\a ∉ ι.ix) \/
  ∃(o:Obj) (its:Array Value) (n:Nat),K.fr.lookup a=some o/\o.cls = .type "tuple" /\ o.dict=none/\o.data = .seq its n/\its.size<=sizeLine/\Vals xs its.toList
theorem ic.sq {K H ι a xs}(h:ic K H ι a xs):cq K H a xs:=by
 rcases h with⟨h,_⟩ | h
 . exact .inl h
 . exact .inr h
mutual
def Rel (K:KW)(H:Hp)(ι:Ix):D->V->Prop
 | .non,v=>v = .non
 | .bl b,v=>v = .bl b
 | .int i,v=>v = .int i
 | .str x,v=>v = .str x
 | .tup xs,v=>∃a vs,v = .ref a/\ic K H ι a vs/\ag K H ι xs vs
 | .lst xs,v=>∃a vs,v = .ref a/\iR K H ι a vs/\ag K H ι xs vs
 | .edc,v=>∃a,v = .ref a/\H a=some (.dK [])/\a ∉ ι.ix
 | .ref n,v=>∃a,v = .ref a/\cW ι n a false
 | .aQ n,v=>∃a,v = .ref a/\cW ι n a true
 | .fn x,v=>∃a,v = .ref a/\K.mg x=some (.ref a)
def ag (K:KW)(H:Hp)(ι:Ix):List D->List V->Prop
 | [],vs=>vs = []
 | x::xs,vs=>∃v vr,vs=v::vr/\Rel K H ι x v/\ag K H ι xs vr
end
structure Ext (H:Hp)(ι:Ix)(H':Hp)(ι':Ix):Prop where
 same:∀a o,H a=some o->a ∉ ι.ix->H' a=some o
 there:∀a,H a≠none->H' a≠none
 more:∃m,ι'.ix=ι.ix++m /\ ∀a∈m,H a=none
 hid:ι'.hd=ι.hd
 kds:∀i,i < ι.ix.length->ι'.kd i=ι.kd i
structure au (K:KW)(H:Hp)(ι:Ix)(g:G):Prop where
 nd:ι.ix.Nodup
 len:ι.ix.length=g.length
 hid:∀b∈ι.hd,b ∉ ι.ix/\H b≠none
 at_:∀(i:Nat) xs,g[i]? = some xs->∃a o vs,ι.ix[i]? = some a/\H a=some o/\OV K a xs (ι.kd i) o vs/\ag K H ι xs vs
def aS (K:KW)(H:Hp)(ι:Ix)(σd:Sg)(σ:L2.St):Prop :=
 σd.length=σ.length /\ ∀(i:Nat) d,σd[i]? = some (some d)->∃v,σ[i]? = some (some v)/\Rel K H ι d v
theorem Ext.refl {H ι}:Ext H ι H ι:=⟨fun _ _ h _=>h,fun _ h=>h,⟨[],by simp,fun _ h=>by simp at h⟩,rfl,fun _ _=>rfl⟩
theorem Ext.old {H ι H1 ι1}(a:Ext H ι H1 ι1){c:Addr}{o:HO}(h:H c=some o)(n:c ∉ ι.ix):c ∉ ι1.ix:=fun z=>by
 obtain⟨m1,e1,f1⟩:=a.more
 rw [e1] at z
 rcases List.mem_append.mp z with z | z
 . exact n z
 . rw [f1 c z] at h;cases h
theorem Ext.trans {H ι H1 ι1 H2 ι2}(a:Ext H ι H1 ι1)(b:Ext H1 ι1 H2 ι2):Ext H ι H2 ι2:=by
 obtain⟨m1,e1,f1⟩:=a.more
 obtain⟨m2,e2,f2⟩:=b.more
 refine⟨fun c o h n=>b.same c o (a.same c o h n) (a.old h n),fun c h=>b.there c (a.there c h),⟨m1++m2,by rw [e2,e1,List.append_assoc],fun c z=>?_⟩,b.hid.trans a.hid,fun i hi=>(b.kds i (by rw [e1,List.length_append];omega)).trans (a.kds i hi)⟩
 rcases List.mem_append.mp z with z | z
 . exact f1 c z
 . cases q:H c with
   | none=>rfl
   | some o=>exact absurd (f2 c z) (a.there c (by rw [q];simp))
theorem Ext.at {H ι H1 ι1}(a:Ext H ι H1 ι1){i:Nat}{c:Addr}{b:Bool}(h:cW ι i c b):cW ι1 i c b:=by
 obtain⟨m1,e1,_⟩:=a.more
 have hl:=(List.getElem?_eq_some_iff.mp h.1).1
 refine⟨?_,by rw [a.kds i hl];exact h.2⟩
 rw [e1,List.getElem?_append_left hl];exact h.1
theorem iR.ext {K H ι H1 ι1 a xs}(e:Ext H ι H1 ι1)(h:iR K H ι a xs):iR K H1 ι1 a xs:=by
 rcases h with⟨h | ⟨o,h⟩,n,k⟩ | h
 . exact .inl ⟨.inl (e.same _ _ h n),e.old h n,by rw [e.hid];exact k⟩
 . exact .inl ⟨.inr ⟨o,e.same _ _ h n⟩,e.old h n,by rw [e.hid];exact k⟩
 . exact .inr h
theorem ic.ext {K H ι H1 ι1 a xs}(e:Ext H ι H1 ι1)(h:ic K H ι a xs):ic K H1 ι1 a xs:=by
 rcases h with⟨h | ⟨o,h⟩,n⟩ | h
 . exact .inl ⟨.inl (e.same _ _ h n),e.old h n⟩
 . exact .inl ⟨.inr ⟨o,e.same _ _ h n⟩,e.old h n⟩
 . exact .inr h
mutual
theorem Rel.ext {K H ι H1 ι1}(e:Ext H ι H1 ι1):∀(d:D) {v:V},Rel K H ι d v->Rel K H1 ι1 d v
 | .non,v,h=>by simpa [Rel] using h
 | .bl _,v,h=>by simpa [Rel] using h
 | .int _,v,h=>by simpa [Rel] using h
 | .str _,v,h=>by simpa [Rel] using h
 | .tup xs,v,h=>by
  simp only [Rel] at h ⊢
  obtain⟨a,vs,e1,hq,hr⟩:=h
  exact⟨a,vs,e1,hq.ext e,ag.ext e xs hr⟩
 | .lst xs,v,h=>by
  simp only [Rel] at h ⊢
  obtain⟨a,vs,e1,hq,hr⟩:=h
  exact⟨a,vs,e1,hq.ext e,ag.ext e xs hr⟩
 | .edc,v,h=>by
  simp only [Rel] at h ⊢
  obtain⟨a,e1,hq,hr⟩:=h
  exact⟨a,e1,e.same _ _ hq hr,e.old hq hr⟩
 | .ref n,v,h=>by
  simp only [Rel] at h ⊢
  obtain⟨a,e1,hq⟩:=h
  exact⟨a,e1,e.at hq⟩
 | .aQ n,v,h=>by
  simp only [Rel] at h ⊢
  obtain⟨a,e1,hq⟩:=h
  exact⟨a,e1,e.at hq⟩
 | .fn x,v,h=>by simpa [Rel] using h
theorem ag.ext {K H ι H1 ι1}(e:Ext H ι H1 ι1):∀(ds:List D) {vs:List V},ag K H ι ds vs->ag K H1 ι1 ds vs
 | [],vs,h=>by simpa [ag] using h
 | d::ds,vs,h=>by
  simp only [ag] at h ⊢
  obtain⟨v,vr,e1,hq,hr⟩:=h
  exact⟨v,vr,e1,Rel.ext e d hq,ag.ext e ds hr⟩
end
theorem aS.ext {K H ι H1 ι1 σd σ}(e:Ext H ι H1 ι1)(h:aS K H ι σd σ):aS K H1 ι1 σd σ :=
 ⟨h.1,fun i d q=>let⟨v,a,b⟩:=h.2 i d q;⟨v,a,Rel.ext e d b⟩⟩
theorem ag.length {K H ι}:∀{ds:List D} {vs:List V},ag K H ι ds vs->ds.length=vs.length
 | [],vs,h=>by simp only [ag] at h;subst h;rfl
 | d::ds,vs,h=>by
  simp only [ag] at h
  obtain⟨v,vr,rfl,_,hr⟩:=h
  simp [ag.length hr]
theorem ag.append {K H ι}:∀{ds es:List D} {vs us:List V},ag K H ι ds vs->ag K H ι es us->ag K H ι (ds++es) (vs++us)
 | [],es,vs,us,h,k=>by simp only [ag] at h;subst h;exact k
 | d::ds,es,vs,us,h,k=>by
  simp only [ag] at h
  obtain⟨v,vr,rfl,hv,hr⟩:=h
  simp only [List.cons_append,ag]
  exact⟨v,_,rfl,hv,ag.append hr k⟩
theorem ag.get {K H ι}:∀{ds:List D} {vs:List V} {i:Nat} {d:D},ag K H ι ds vs->ds[i]? = some d->∃v,vs[i]? = some v/\Rel K H ι d v
 | [],_,_,_,_,e=>by simp at e
 | x::ds,vs,0,d,h,e=>by
  simp only [ag] at h
  obtain⟨v,vr,rfl,hv,hr⟩:=h
  simp at e;subst e;exact⟨v,rfl,hv⟩
 | x::ds,vs,i+1,d,h,e=>by
  simp only [ag] at h
  obtain⟨v,vr,rfl,hv,hr⟩:=h
  obtain⟨u,h1,h2⟩:=ag.get (i:=i) hr (by simpa using e)
  exact⟨u,by simpa using h1,h2⟩
theorem ag.set {K H ι d v}(hv:Rel K H ι d v):∀{ds:List D} {vs:List V} (i:Nat),ag K H ι ds vs->ag K H ι (ds.set i d) (vs.set i v)
 | [],_,_,h=>by simp only [ag] at h;subst h;simp [ag]
 | x::ds,vs,0,h=>by
  simp only [ag] at h
  obtain⟨u,vr,rfl,hu,hr⟩:=h
  simp only [List.set_cons_zero,ag]
  exact⟨v,vr,rfl,hv,hr⟩
 | x::ds,vs,i+1,h=>by
  simp only [ag] at h
  obtain⟨u,vr,rfl,hu,hr⟩:=h
  simp only [List.set_cons_succ,ag]
  exact⟨u,_,rfl,hu,ag.set hv i hr⟩
theorem ag.take {K H ι}:∀{ds:List D} {vs:List V} (n:Nat),ag K H ι ds vs->ag K H ι (ds.take n) (vs.take n)
 | _,_,0,_=>by simp [ag]
 | [],_,n+1,h=>by simp only [ag] at h;subst h;simp [ag]
 | x::ds,vs,n+1,h=>by
  simp only [ag] at h
  obtain⟨u,vr,rfl,hu,hr⟩:=h
  simp only [List.take_succ_cons,ag]
  exact⟨u,_,rfl,hu,ag.take n hr⟩
theorem ag.drop {K H ι}:∀{ds:List D} {vs:List V} (n:Nat),ag K H ι ds vs->ag K H ι (ds.drop n) (vs.drop n)
 | _,_,0,h=>h
 | [],_,n+1,h=>by simp only [ag] at h;subst h;simp [ag]
 | x::ds,vs,n+1,h=>by
  simp only [ag] at h
  obtain⟨u,vr,rfl,hu,hr⟩:=h
  simp only [List.drop_succ_cons]
  exact ag.drop n hr
theorem au.at {K H ι g}(h:au K H ι g){n:Nat}{xs:List D}{a:Addr}(e:g[n]? = some xs)(ha:cW ι n a false):∃vs,H a=some (.lst vs)/\ag K H ι xs vs:=by
 obtain⟨b,o,vs,hb,h1,ov,h2⟩:=h.at_ n xs e
 rw [ha.1] at hb;cases hb
 have hb:=ha.2
 generalize ι.kd n=k at ov hb
 cases ov with
 | l=>exact⟨vs,h1,h2⟩
 | d=>cases hb
theorem au.nz {K H ι g}(h:au K H ι g){n:Nat}{xs:List D}{a:Addr}(e:g[n]? = some xs)(ha:cW ι n a true) :
  ∃es vs c,H a=some (dO a es c)/\ι.kd n=c+1/\c<=es.length/\Vals vs (fR es)/\gv K.w xs es/\(aO xs).Nodup/\(a == sysModules)=false/\es.length<=sizeLine/\ag K H ι xs vs:=by
 obtain⟨b,o,vs,hb,h1,ov,h2⟩:=h.at_ n xs e
 rw [ha.1] at hb;cases hb
 have hb:=ha.2
 generalize ι.kd n=k at ov hb
 cases ov with
 | l=>cases hb
 | d c es vs h0 h3 h4 h5 h6 h7=>exact⟨es,vs,c,h1,rfl,h0,h3,h4,h5,h6,h7,h2⟩
theorem au.mn {K H ι g}(h:au K H ι g){a:Addr}(ha:a∈ι.ix):H a≠none:=by
 obtain⟨i,hi,e⟩:=List.mem_iff_getElem.mp ha
 have hg:i<g.length:=by rw [<- h.len];exact hi
 obtain⟨b,_,vs,hb,h1,_⟩:=h.at_ i _ (List.getElem?_eq_getElem hg)
 rw [List.getElem?_eq_getElem hi,e] at hb
 cases hb
 rw [h1];simp
theorem Ext.lay {H ι p o}(hp:H p=none):Ext H ι (upd H p o) ι :=
 ⟨fun a u h _=>by rw [aJ (bG h hp)];exact h,fun a h=>by
  by_cases e:a=p
  . subst e;exact absurd hp h
  . rw [aJ e];exact h,⟨[],by simp,fun _ h=>by simp at h⟩,rfl,fun _ _=>rfl⟩
theorem au.ext {K H ι g H1}(h:au K H ι g)(e:Ext H ι H1 ι)(k:∀a∈ι.ix,H1 a=H a):au K H1 ι g :=
 ⟨h.nd,h.len,fun b hb=>⟨(h.hid b hb).1,e.there b (h.hid b hb).2⟩,fun i xs q=>by
  obtain⟨a,o,vs,h1,h2,ov,h3⟩:=h.at_ i xs q
  exact⟨a,o,vs,h1,by rw [k a (List.mem_of_getElem? h1)];exact h2,ov,ag.ext e xs h3⟩⟩
theorem au.lay {K H ι g p o}(h:au K H ι g)(hp:H p=none):au K (upd H p o) ι g :=
 h.ext (Ext.lay hp) fun a ha=>aJ fun e=>by subst e;exact h.mn ha hp
theorem au.fresh {K H ι g p}(h:au K H ι g)(hp:H p=none):p ∉ ι.ix:=fun ha=>h.mn ha hp
theorem au.gW {K H ι g p}(h:au K H ι g)(hp:H p=none):p ∉ ι.hd:=fun ha=>(h.hid p ha).2 hp
theorem Ext.fm {H ι p o b}(hp:H p=none):Ext H ι (upd H p o) (ι.more p b):=by
 have e:=Ext.lay (ι:=ι) (o:=o) hp
 refine⟨e.same,e.there,⟨[p],rfl,fun a ha=>by simp at ha;subst ha;exact hp⟩,rfl,fun i hi=>?_⟩
 show(if i=ι.ix.length then b else ι.kd i)=ι.kd i
 rw [if_neg (by omega)]
theorem Ext.push {H ι p o}(hp:H p=none):Ext H ι (upd H p o) (ι.more p 0):=Ext.fm hp
theorem au.fm {K H ι g p o xs vs b}(h:au K H ι g)(hp:H p=none)(ov:OV K p xs b o vs)(r:ag K H ι xs vs):au K (upd H p o) (ι.more p b) (g ++ [xs]):=by
 have hn:=h.fresh hp
 refine⟨?_,by simp [Ix.more,h.len],fun b hb=>⟨fun z=>?_,(Ext.fm (ι:=ι) (o:=o) (b:=0) hp).there b (h.hid b hb).2⟩,fun i ys q=>?_⟩
 . show(ι.ix ++ [p]).Nodup
   rw [List.nodup_append]
   refine⟨h.nd,by simp,fun a ha b hb=>?_⟩
   simp at hb;subst hb
   intro e;subst e;exact hn ha
 . rcases List.mem_append.mp z with z | z
   . exact(h.hid b hb).1 z
   . simp at z;subst z;exact(h.hid _ hb).2 hp
 . by_cases hi:i<g.length
   . rw [List.getElem?_append_left hi] at q
     obtain⟨a,o',us,h1,h2,ov',h3⟩:=h.at_ i ys q
     refine⟨a,o',us,(by show(ι.ix ++ [p])[i]? = some a;rw [List.getElem?_append_left (by rw [h.len];exact hi)];exact h1),?_,?_,ag.ext (Ext.fm hp) ys h3⟩
     . rw [aJ (bG h2 hp)];exact h2
     . show OV K _ _ (if i=ι.ix.length then b else ι.kd i) o' us
       rw [if_neg (by rw [h.len];omega)];exact ov'
   . rw [List.getElem?_append_right (by omega)] at q
     have hi0:i-g.length=0:=by
       cases e:i-g.length with
       | zero=>rfl
       | succ k=>rw [e] at q;simp at q
     rw [hi0] at q
     have e:xs=ys:=by simpa using q
     subst e
     have hi1:i=ι.ix.length:=by rw [h.len];omega
     refine⟨p,o,vs,?_,aR,?_,ag.ext (Ext.fm hp) xs r⟩
     . show(ι.ix ++ [p])[i]? = some p
       rw [hi1];simp
     . show OV K _ _ (if i=ι.ix.length then b else ι.kd i) o vs
       rw [if_pos hi1];exact ov
theorem au.push {K H ι g p xs vs}(h:au K H ι g)(hp:H p=none)(r:ag K H ι xs vs):au K (upd H p (.lst vs)) (ι.more p 0) (g ++ [xs]):=h.fm hp (.l vs) r
theorem cW.new {ι:Ix}{p:Addr}{k:Nat}{n:Nat}(h:ι.ix.length=n):cW (ι.more p k) n p (kb k):=by
 subst h
 exact⟨by show(ι.ix ++ [p])[ι.ix.length]? = some p;simp,by show kb (if ι.ix.length=ι.ix.length then k else ι.kd ι.ix.length)=kb k;rw [if_pos rfl]⟩
theorem Ext.put {H ι}{n:Nat}{a o o'}{b:Bool}(ha:cW ι n a b)(h:H a=some o):Ext H ι (upd H a o') ι :=
 ⟨fun b o q nb=>by rw [aJ (fun e=>nb (by rw [e];exact List.mem_of_getElem? ha.1))];exact q,fun b q=>by
  by_cases e:b=a
  . subst e;rw [aR];simp
  . rw [aJ e];exact q,⟨[],by simp,fun _ z=>by simp at z⟩,rfl,fun _ _=>rfl⟩
theorem au.Dg {K H ι g}{n:Nat}{a o o' xs ws}{b:Bool}(h:au K H ι g)(ha:cW ι n a b)(hv:H a=some o)(ov:OV K a xs (ι.kd n) o' ws)(r:ag K H ι xs ws):au K (upd H a o') ι (g.set n xs):=by
 refine⟨h.nd,by simp [h.len],fun b hb=>⟨(h.hid b hb).1,(Ext.put ha hv).there b (h.hid b hb).2⟩,fun i ys q=>?_⟩
 by_cases e:i=n
 . subst e
   have hi:i<g.length:=by rw [<- h.len];exact(List.getElem?_eq_some_iff.mp ha.1).1
   rw [List.getElem?_set_self hi] at q
   cases q
   exact⟨a,o',ws,ha.1,aR,ov,ag.ext (Ext.put ha hv) _ r⟩
 . rw [List.getElem?_set_ne (Ne.symm e)] at q
   obtain⟨b,o2,us,h1,h2,ov2,h3⟩:=h.at_ i ys q
   refine⟨b,o2,us,h1,?_,ov2,ag.ext (Ext.put ha hv) ys h3⟩
   rw [aJ ?_]
   . exact h2
   . intro z
     subst z
     obtain⟨hi,e1⟩:=List.getElem?_eq_some_iff.mp h1
     obtain⟨hn,e2⟩:=List.getElem?_eq_some_iff.mp ha.1
     exact e ((List.getElem_inj h.nd).mp (e1.trans e2.symm))
theorem au.put {K H ι g}{n:Nat}{a vs xs ws}(h:au K H ι g)(ha:cW ι n a false)(hv:H a=some (.lst vs))(r:ag K H ι xs ws):au K (upd H a (.lst ws)) ι (g.set n xs):=h.Dg ha hv (by
 have hb:=ha.2
 cases e:ι.kd n with
 | zero=>exact .l ws
 | succ k=>rw [e] at hb;cases hb) r
def Ix.hide (ι:Ix)(p:Addr):Ix:=⟨ι.ix,p::ι.hd,ι.kd⟩
mutual
theorem Rel.show {K H ι p}:∀(d:D) {v:V},Rel K H (Ix.hide ι p) d v->Rel K H ι d v
 | .non,v,h=>by simpa [Rel] using h
 | .bl _,v,h=>by simpa [Rel] using h
 | .int _,v,h=>by simpa [Rel] using h
 | .str _,v,h=>by simpa [Rel] using h
 | .tup xs,v,h=>by
  simp only [Rel] at h ⊢
  obtain⟨a,vs,e1,hq,hr⟩:=h
  exact⟨a,vs,e1,hq,ag.show xs hr⟩
 | .lst xs,v,h=>by
  simp only [Rel] at h ⊢
  obtain⟨a,vs,e1,hq,hr⟩:=h
  refine⟨a,vs,e1,?_,ag.show xs hr⟩
  rcases hq with⟨h,n,k⟩ | h
  . exact .inl ⟨h,n,fun z=>k (List.mem_cons_of_mem _ z)⟩
  . exact .inr h
 | .edc,v,h=>by simpa [Rel,Ix.hide] using h
 | .ref n,v,h=>by simpa [Rel,Ix.hide,cW] using h
 | .aQ n,v,h=>by simpa [Rel,Ix.hide,cW] using h
 | .fn x,v,h=>by simpa [Rel] using h
theorem ag.show {K H ι p}:∀(ds:List D) {vs:List V},ag K H (Ix.hide ι p) ds vs->ag K H ι ds vs
 | [],vs,h=>by simpa [ag] using h
 | d::ds,vs,h=>by
  simp only [ag] at h ⊢
  obtain⟨v,vr,e1,hq,hr⟩:=h
  exact⟨v,vr,e1,Rel.show d hq,ag.show ds hr⟩
end
mutual
theorem Rel.hide {K H ι p o}(hp:H p=none):∀(d:D) {v:V},Rel K H ι d v->Rel K (upd H p o) (Ix.hide ι p) d v
 | .non,v,h=>by simpa [Rel] using h
 | .bl _,v,h=>by simpa [Rel] using h
 | .int _,v,h=>by simpa [Rel] using h
 | .str _,v,h=>by simpa [Rel] using h
 | .tup xs,v,h=>by
  simp only [Rel] at h ⊢
  obtain⟨a,vs,e1,hq,hr⟩:=h
  refine⟨a,vs,e1,?_,ag.hide hp xs hr⟩
  rcases hq with⟨h | ⟨u,h⟩,n⟩ | h
  . exact .inl ⟨.inl (by rw [aJ (bG h hp)];exact h),n⟩
  . exact .inl ⟨.inr ⟨u,by rw [aJ (bG h hp)];exact h⟩,n⟩
  . exact .inr h
 | .lst xs,v,h=>by
  simp only [Rel] at h ⊢
  obtain⟨a,vs,e1,hq,hr⟩:=h
  refine⟨a,vs,e1,?_,ag.hide hp xs hr⟩
  have out:∀{u:HO},H a=some u->a ∉ ι.hd->a ∉ (Ix.hide ι p).hd:=fun h k z=>by
    rcases List.mem_cons.mp z with z | z
    . exact bG h hp z
    . exact k z
  rcases hq with⟨h | ⟨u,h⟩,n,k⟩ | h
  . exact .inl ⟨.inl (by rw [aJ (bG h hp)];exact h),n,out h k⟩
  . exact .inl ⟨.inr ⟨u,by rw [aJ (bG h hp)];exact h⟩,n,out h k⟩
  . exact .inr h
 | .edc,v,h=>by
  simp only [Rel] at h ⊢
  obtain⟨a,e1,hq,hr⟩:=h
  exact⟨a,e1,by rw [aJ (bG hq hp)];exact hq,hr⟩
 | .ref n,v,h=>by simpa [Rel,Ix.hide,cW] using h
 | .aQ n,v,h=>by simpa [Rel,Ix.hide,cW] using h
 | .fn x,v,h=>by simpa [Rel] using h
theorem ag.hide {K H ι p o}(hp:H p=none):∀(ds:List D) {vs:List V},ag K H ι ds vs->ag K (upd H p o) (Ix.hide ι p) ds vs
 | [],vs,h=>by simpa [ag] using h
 | d::ds,vs,h=>by
  simp only [ag] at h ⊢
  obtain⟨v,vr,e1,hq,hr⟩:=h
  exact⟨v,vr,e1,Rel.hide hp d hq,ag.hide hp ds hr⟩
end
mutual
theorem Rel.grow {K H ι p us ws}(hp:H p=some (.lst us)):∀(d:D) {v:V},Rel K H (Ix.hide ι p) d v->Rel K (upd H p (.lst ws)) (Ix.hide ι p) d v
 | .non,v,h=>by simpa [Rel] using h
 | .bl _,v,h=>by simpa [Rel] using h
 | .int _,v,h=>by simpa [Rel] using h
 | .str _,v,h=>by simpa [Rel] using h
 | .tup xs,v,h=>by
  simp only [Rel] at h ⊢
  obtain⟨a,vs,e1,hq,hr⟩:=h
  refine⟨a,vs,e1,?_,ag.grow hp xs hr⟩
  rcases hq with⟨h | ⟨u,h⟩,n⟩ | h
  . exact .inl ⟨.inl (by rw [aJ (rE h hp (by simp))];exact h),n⟩
  . exact .inl ⟨.inr ⟨u,by rw [aJ (rE h hp (by simp))];exact h⟩,n⟩
  . exact .inr h
 | .lst xs,v,h=>by
  simp only [Rel] at h ⊢
  obtain⟨a,vs,e1,hq,hr⟩:=h
  refine⟨a,vs,e1,?_,ag.grow hp xs hr⟩
  rcases hq with⟨h,n,k⟩ | h
  . have ne:a≠p:=fun z=>k (by rw [z];exact List.mem_cons_self)
    rcases h with h | ⟨u,h⟩
    . exact .inl ⟨.inl (by rw [aJ ne];exact h),n,k⟩
    . exact .inl ⟨.inr ⟨u,by rw [aJ ne];exact h⟩,n,k⟩
  . exact .inr h
 | .edc,v,h=>by
  simp only [Rel] at h ⊢
  obtain⟨a,e1,hq,hr⟩:=h
  exact⟨a,e1,by rw [aJ (rE hq hp (by simp))];exact hq,hr⟩
 | .ref n,v,h=>by simpa [Rel,Ix.hide,cW] using h
 | .aQ n,v,h=>by simpa [Rel,Ix.hide,cW] using h
 | .fn x,v,h=>by simpa [Rel] using h
theorem ag.grow {K H ι p us ws}(hp:H p=some (.lst us)):∀(ds:List D) {vs:List V},ag K H (Ix.hide ι p) ds vs->ag K (upd H p (.lst ws)) (Ix.hide ι p) ds vs
 | [],vs,h=>by simpa [ag] using h
 | d::ds,vs,h=>by
  simp only [ag] at h ⊢
  obtain⟨v,vr,e1,hq,hr⟩:=h
  exact⟨v,vr,e1,Rel.grow hp d hq,ag.grow hp ds hr⟩
end
theorem au.hide {K H ι p o g}(hp:H p=none)(h:au K H ι g):au K (upd H p o) (Ix.hide ι p) g :=
 ⟨h.nd,h.len,fun b hb=>by
  rcases List.mem_cons.mp hb with rfl | hb
  . exact⟨h.fresh hp,by rw [aR];simp⟩
  . refine⟨(h.hid b hb).1,?_⟩
    by_cases e:b=p
    . subst e;rw [aR];simp
    . rw [aJ e];exact(h.hid b hb).2,fun i xs q=>by
  obtain⟨a,o,vs,h1,h2,ov,h3⟩:=h.at_ i xs q
  exact⟨a,o,vs,h1,by rw [aJ (bG h2 hp)];exact h2,ov,ag.hide hp xs h3⟩⟩
theorem au.show {K H ι p g}(h:au K H (Ix.hide ι p) g):au K H ι g :=
 ⟨h.nd,h.len,fun b hb=>h.hid b (List.mem_cons_of_mem _ hb),fun i xs q=>by
  obtain⟨a,o,vs,h1,h2,ov,h3⟩:=h.at_ i xs q
  exact⟨a,o,vs,h1,h2,ov,ag.show xs h3⟩⟩
theorem au.grow {K H ι p us ws g}(hp:H p=some (.lst us))(h:au K H (Ix.hide ι p) g):au K (upd H p (.lst ws)) (Ix.hide ι p) g :=
 ⟨h.nd,h.len,fun b hb=>⟨(h.hid b hb).1,by
   by_cases e:b=p
   . subst e;rw [aR];simp
   . rw [aJ e];exact(h.hid b hb).2⟩,fun i xs q=>by
  obtain⟨a,o,vs,h1,h2,ov,h3⟩:=h.at_ i xs q
  refine⟨a,o,vs,h1,?_,ov,ag.grow hp xs h3⟩
  rw [aJ (fun e=>(h.hid p List.mem_cons_self).1 (by rw [<- e];exact List.mem_of_getElem? h1))];exact h2⟩
abbrev FE:=Sg->G->Option (D×G)
abbrev FT:=Sg->G->Option (Bool×G)
abbrev FA:=Sg->G->Option (List D×G)
def eF (K:KW)(H:Hp)(ι:Ix)(d:D)(g':G)(Q:VK):Prop:=∀H' ι' v,Ext H ι H' ι'->au K H' ι' g'->Rel K H' ι' d v->Q v H'
def DP (K:KW)(H:Hp)(ι:Ix)(ds:List D)(g':G)(Q:List V->Hp->Prop):Prop:=∀H' ι' vs,Ext H ι H' ι'->au K H' ι' g'->ag K H' ι' ds vs->Q vs H'
def ka (K:KW)(H:Hp)(ι:Ix)(g':G)(Q:Hp->Prop):Prop:=∀H' ι',Ext H ι H' ι'->au K H' ι' g'->Q H'
inductive tD (K:KW)(f:FE)(σ:L2.St)(H:Hp)(Q:VK):Prop
 | mk (ι:Ix) (σd:Sg) (g:G) (d:D) (g':G) (h0:au K H ι g) (h1:aS K H ι σd σ) (h2:f σd g=some (d,g')) (h3:eF K H ι d g' Q):tD K f σ H Q
inductive eU (K:KW)(f:FA)(σ:L2.St)(H:Hp)(Q:(List V->Hp->Prop)):Prop
 | mk (ι:Ix) (σd:Sg) (g:G) (d:List D) (g':G) (h0:au K H ι g) (h1:aS K H ι σd σ) (h2:f σd g=some (d,g')) (h3:DP K H ι d g' Q):eU K f σ H Q
inductive ia (K:KW)(f:FT)(σ:L2.St)(H:Hp)(Q:(Bool->Hp->Prop)):Prop
 | mk (ι:Ix) (σd:Sg) (g:G) (b:Bool) (g':G) (h0:au K H ι g) (h1:aS K H ι σd σ) (h2:f σd g=some (b,g')) (h3:ka K H ι g' (Q b)):ia K f σ H Q
structure DE (X:Cx)(e:Expr)(f:FE):Prop where of ::
 un:PE X e (tD X.kw f)
structure DA (X:Cx)(es:List Expr)(f:FA):Prop where of ::
 un:PA X es (eU X.kw f)
structure DT (X:Cx)(e:Expr)(f:FT):Prop where of ::
 un:PT X e (ia X.kw f)
structure DW (X:Cx)(e:Expr)(f:FT):Prop where of ::
 un:PW X e (ia X.kw f)
theorem PE.imp {X:Cx}{e:Expr}{t t':TE}(h:PE X e t)(i:∀σ H Q,t' σ H Q->t σ H Q):PE X e t':=fun pins s σ H Q I q=>h pins s σ H Q I (i σ H Q q)
theorem PT.imp {X:Cx}{e:Expr}{t t':TT}(h:PT X e t)(i:∀σ H Q,t' σ H Q->t σ H Q):PT X e t':=fun pins s σ H Q I q=>h pins s σ H Q I (i σ H Q q)
theorem PW.imp {X:Cx}{e:Expr}{t t':TT}(h:PW X e t)(i:∀σ H Q,t' σ H Q->t σ H Q):PW X e t':=fun w pins s σ H Q I q=>h w pins s σ H Q I (i σ H Q q)
theorem PA.imp {X:Cx}{e:List Expr}{t t':TA}(h:PA X e t)(i:∀σ H Q,t' σ H Q->t σ H Q):PA X e t':=fun pos pins s σ H Q I q=>h pos pins s σ H Q I (i σ H Q q)
theorem eF.mono {K H ι H1 ι1 d g' Q}(e:Ext H ι H1 ι1)(p:eF K H ι d g' Q):eF K H1 ι1 d g' Q:=fun H' ι' v e' r q=>p H' ι' v (e.trans e') r q
theorem ka.mono {K H ι H1 ι1 g' Q}(e:Ext H ι H1 ι1)(p:ka K H ι g' Q):ka K H1 ι1 g' Q:=fun H' ι' e' r=>p H' ι' (e.trans e') r
theorem tD.bind {K f}{σ:L2.St}{H:Hp}{Q:VK}{ι σd g d g'}(G0:au K H ι g)(S0:aS K H ι σd σ)(h:f σd g=some (d,g'))
  (k:∀H1 ι1 v,Ext H ι H1 ι1->au K H1 ι1 g'->aS K H1 ι1 σd σ->Rel K H1 ι1 d v->Q v H1):tD K f σ H Q :=
 ⟨ι,σd,g,d,g',G0,S0,h,fun H' ι' v e r q=>k H' ι' v e r (S0.ext e) q⟩
theorem eU.bind {K f}{σ:L2.St}{H:Hp}{Q:List V->Hp->Prop}{ι σd g d g'}(G0:au K H ι g)(S0:aS K H ι σd σ)(h:f σd g=some (d,g'))
  (k:∀H1 ι1 v,Ext H ι H1 ι1->au K H1 ι1 g'->aS K H1 ι1 σd σ->ag K H1 ι1 d v->Q v H1):eU K f σ H Q :=
 ⟨ι,σd,g,d,g',G0,S0,h,fun H' ι' v e r q=>k H' ι' v e r (S0.ext e) q⟩
theorem ia.bind {K f}{σ:L2.St}{H:Hp}{Q:Bool->Hp->Prop}{ι σd g d g'}(G0:au K H ι g)(S0:aS K H ι σd σ)(h:f σd g=some (d,g'))
  (k:∀H1 ι1,Ext H ι H1 ι1->au K H1 ι1 g'->aS K H1 ι1 σd σ->Q d H1):ia K f σ H Q :=
 ⟨ι,σd,g,d,g',G0,S0,h,fun H' ι' e r=>k H' ι' e r (S0.ext e)⟩
section
variable {X:Cx}{a b c e:Expr}{es rest:List Expr}{pos:Pos}{fa fb fc:FE}{fr:FA}{ga gb:FT}
def fC (d:D):FE:=fun _ g=>some (d,g)
def af (i:Nat):FE:=fun σ g=>match σ[i]? with | some (some d)=>some (d,g) | _=>none
theorem CH {i j pos}:DE X (.Constant (.int i) j pos) (fC (.int i)):=.of (PE.imp zS fun σ H Q h=>by
 obtain⟨ι,σd,g,d,g',G0,S0,h,p⟩:=h
 cases h;exact p H ι _ Ext.refl G0 (by simp [Rel]))
theorem z6 {i j pos}:DE X (.Constant (.str i) j pos) (fC (.str i)):=.of (PE.imp Av fun σ H Q h=>by
 obtain⟨ι,σd,g,d,g',G0,S0,h,p⟩:=h
 cases h;exact p H ι _ Ext.refl G0 (by simp [Rel]))
theorem EM {i j pos}:DE X (.Constant (.bool i) j pos) (fC (.bl i)):=.of (PE.imp D2 fun σ H Q h=>by
 obtain⟨ι,σd,g,d,g',G0,S0,h,p⟩:=h
 cases h;exact p H ι _ Ext.refl G0 (by simp [Rel]))
theorem BH {j pos}:DE X (.Constant .none j pos) (fC .non):=.of (PE.imp CM fun σ H Q h=>by
 obtain⟨ι,σd,g,d,g',G0,S0,h,p⟩:=h
 cases h;exact p H ι _ Ext.refl G0 (by simp [Rel]))
theorem AZ (i:Nat){x:Str}{pos:Pos}(hN:X.N[i]? = some x:=by rfl)(hv:C1 X.env.scope x:=by first | exact Or.inl rfl | exact Or.inr (Or.inl rfl) | exact Or.inr (Or.inr rfl))(hd:(x == ("__debug__":Str))=false:=by decide)
   (hcd:(x == ("__classdict__":Str))=false:=by decide):DE X (.Name x pos) (af i):=.of (PE.imp (AM hN hv hd hcd) fun σ H Q h=>by
 obtain⟨ι,σd,g,d,g',G0,S0,h,p⟩:=h
 unfold af at h
 split at h
 . rename_i d' e
   obtain⟨rfl,rfl⟩:d'=d/\g=g':=by cases h;exact⟨rfl,rfl⟩
   obtain⟨v,h1,h2⟩:=S0.2 i _ e
   exact⟨v,h1,p H ι v Ext.refl G0 h2⟩
 . cases h)
theorem yc {x:Str}{v:V}{u:Value}{d:D}(hg:Gl X x)(hm:X.mg x=some u)(r:RelV v u)(rd:∀K H ι,Rel K H ι d v)(hd:(x == ("__debug__":Str))=false:=by decide):DE X (.Name x pos) (fC d):=.of (
 PE.imp (p9 hg hm r hd) fun σ H Q h=>by
  obtain⟨ι,σd,g,d,g',G0,S0,h,p⟩:=h
  cases h;exact p H ι _ Ext.refl G0 (rd _ _ _))
inductive bU (K:KW)(o:D->D->G->Option (D×G))(x:V)(y:V)(H:Hp)(Q:VK):Prop
 | mk (ι:Ix) (g:G) (d1:D) (d2:D) (d:D) (g':G) (h0:au K H ι g) (h1:Rel K H ι d1 x) (h2:Rel K H ι d2 y) (h3:o d1 d2 g=some (d,g')) (h4:eF K H ι d g' Q):bU K o x y H Q
inductive Cq (K:KW)(o:D->G->Option (D×G))(x:V)(H:Hp)(Q:VK):Prop
 | mk (ι:Ix) (g:G) (d1:D) (d:D) (g':G) (h0:au K H ι g) (h1:Rel K H ι d1 x) (h2:o d1 g=some (d,g')) (h3:eF K H ι d g' Q):Cq K o x H Q
inductive gD (K:KW)(o:List D->G->Option (D×G))(xs:List V)(H:Hp)(Q:VK):Prop
 | mk (ι:Ix) (g:G) (ds:List D) (d:D) (g':G) (h0:au K H ι g) (h1:ag K H ι ds xs) (h2:o ds g=some (d,g')) (h3:eF K H ι d g' Q):gD K o xs H Q
def ao (o:D->D->G->Option (D×G))(fa fb:FE):FE:=fun σ g=>(fa σ g).bind fun r=>(fb σ r.2).bind fun q=>o r.1 q.1 q.2
def hX (o:D->G->Option (D×G))(fa:FE):FE:=fun σ g=>(fa σ g).bind fun r=>o r.1 r.2
theorem bind_some {α β:Type}{x:Option α}{f:α->Option β}{b:β}(h:x.bind f=some b):∃a,x=some a/\f a=some b:=by
 cases x with
 | none=>cases h
 | some a=>exact⟨a,rfl,h⟩
theorem kC {K}{o:D->D->G->Option (D×G)}{σ:L2.St}{H:Hp}{Q:VK}(h:tD K (ao o fa fb) σ H Q):sV (bU K o) (tD K fa) (tD K fb) σ H Q:=by
 obtain⟨ι,σd,g,d,g',G0,S0,h,p⟩:=h
 obtain⟨⟨d1,g1⟩,h1,h⟩:=bind_some h
 obtain⟨⟨d2,g2⟩,h2,h⟩:=bind_some h
 refine tD.bind G0 S0 h1 fun H1 ι1 v e1 G1 S1 r1=>?_
 refine tD.bind G1 S1 h2 fun H2 ι2 u e2 G2 S2 r2=>?_
 exact⟨ι2,g2,d1,d2,d,g',G2,Rel.ext e2 _ r1,r2,h,p.mono (e1.trans e2)⟩
theorem fQ {op:Operator}{o:D->D->G->Option (D×G)}(ho:aT X (binaryOp op) (bU X.kw o))(ha:DE X a fa)(hb:DE X b fb):DE X (.BinOp a op b pos) (ao o fa fb):=.of (
 PE.imp (DL ho ha.un hb.un) fun σ H Q h=>kC h)
theorem Ao {op:CmpOp}{o:D->D->G->Option (D×G)}(ho:aT X (compareOp op) (bU X.kw o))(ha:DE X a fa)(hb:DE X b fb)(hm:behindInMarks op b=false:=by first | exact nomark _ | with_unfolding_all rfl):DE X (.Compare a [op] [b] pos) (ao o fa fb):=.of (
 PE.imp (yo ho ha.un hb.un hm) fun σ H Q h=>kC h)
theorem DU {op:UnaryOp}{o:D->G->Option (D×G)}(ho:sQ X (unaryOp op) (Cq X.kw o))(ha:DE X a fa):DE X (.UnaryOp op a pos) (hX o fa):=.of (
 PE.imp (DF ho ha.un) fun σ H Q h=>by
  obtain⟨ι,σd,g,d,g',G0,S0,h,p⟩:=h
  obtain⟨⟨d1,g1⟩,h1,h⟩:=bind_some h
  refine tD.bind G0 S0 h1 fun H1 ι1 v e1 G1 S1 r1=>?_
  exact⟨ι1,g1,d1,d,g',G1,r1,h,p.mono e1⟩)
def fL (r:Option (D×G)):Option (Bool×G):=r.bind fun r=>match r.1 with | .bl b=>some (b,r.2) | _=>none
theorem iq {r:Option (D×G)}{b:Bool}{g:G}(h:fL r=some (b,g)):r=some (.bl b,g):=by
 obtain⟨⟨d,g1⟩,h1,h⟩:=bind_some h
 cases d with
 | bl k=>cases h;exact h1
 | _=>cases h
def aH (f:FE):FT:=fun σ g=>fL (f σ g)
theorem nU {K f}{σ:L2.St}{H:Hp}{Q:Bool->Hp->Prop}(h:ia K (aH f) σ H Q):kN (tD K f) σ H Q:=by
 obtain⟨ι,σd,g,b,g',G0,S0,h,p⟩:=h
 obtain⟨⟨d,g1⟩,h1,h⟩:=bind_some h
 cases d with
 | bl k =>
  cases h
  exact tD.bind G0 S0 h1 fun H1 ι1 v e1 G1 S1 r1=>⟨b,by simpa [Rel] using r1,p H1 ι1 e1 G1⟩
 | _=>cases h
theorem kO {t t':TE}(i:∀σ H Q,t' σ H Q->t σ H Q){σ:L2.St}{H:Hp}{Q:Bool->Hp->Prop}(h:kN t' σ H Q):kN t σ H Q:=i σ H _ h
theorem Cj {op:CmpOp}{o:D->D->G->Option (D×G)}(ho:aT X (compareOp op) (bU X.kw o))(ha:DE X a fa)(hb:DE X b fb)(hm:behindInMarks op b=false:=by first | exact nomark _ | with_unfolding_all rfl):DT X (.Compare a [op] [b] pos) (aH (ao o fa fb)):=.of (
 PT.imp (zt ho ha.un hb.un hm) fun σ H Q h=>kO (fun _ _ _=>kC) (nU h))
def eM (o o':D->D->G->Option (D×G))(fa fb fc:FE):FE:=fun σ g=>(fa σ g).bind fun r=>(fb σ r.2).bind fun q=>(fL (o r.1 q.1 q.2)).bind fun k =>
 if k.1=true then(fc σ k.2).bind fun w=>o' q.1 w.1 w.2 else some (.bl false,k.2)
theorem mx {K}{o o':D->D->G->Option (D×G)}{σ:L2.St}{H:Hp}{Q:VK}(h:tD K (eM o o' fa fb fc) σ H Q):nL (bU K o) (bU K o') (tD K fa) (tD K fb) (tD K fc) σ H Q:=by
 obtain⟨ι,σd,g,d,g',G0,S0,h,p⟩:=h
 obtain⟨⟨d1,g1⟩,h1,h⟩:=bind_some h
 obtain⟨⟨d2,g2⟩,h2,h⟩:=bind_some h
 obtain⟨⟨k,g3⟩,h3,h⟩:=bind_some h
 have h3:=iq h3
 refine tD.bind G0 S0 h1 fun H1 ι1 v e1 G1 S1 r1=>?_
 refine tD.bind G1 S1 h2 fun H2 ι2 u e2 G2 S2 r2=>?_
 refine⟨ι2,g2,d1,d2,_,g3,G2,Rel.ext e2 _ r1,r2,h3,fun H3 ι3 z e3 G3 r3=>⟨k,by simpa [Rel] using r3,?_⟩⟩
 clear h3
 cases k with
 | true =>
  simp only [if_true] at h ⊢
  obtain⟨⟨d4,g4⟩,h4,h⟩:=bind_some h
  refine tD.bind G3 (S2.ext e3) h4 fun H4 ι4 w' e4 G4 S4 r4=>?_
  exact⟨ι4,g4,d2,d4,d,g',G4,Rel.ext (e3.trans e4) _ r2,r4,h,p.mono (e1.trans (e2.trans (e3.trans e4)))⟩
 | false =>
  simp only [Bool.false_eq_true,if_false] at h ⊢
  cases h
  exact p H3 ι3 _ (e1.trans (e2.trans e3)) G3 (by simp [Rel])
theorem we {op op':CmpOp}{o o':D->D->G->Option (D×G)}(ho:aT X (compareOp op) (bU X.kw o))(ho':aT X (compareOp op') (bU X.kw o'))(ha:DE X a fa)(hb:DE X b fb)(hc:DE X c fc)
  (hm:lastMarks [op,op'] [b,c]=false:=by with_unfolding_all rfl):DE X (.Compare a [op,op'] [b,c] pos) (eM o o' fa fb fc):=.of (
 PE.imp (vm ho ho' ha.un hb.un hc.un hm) fun σ H Q h=>mx h)
theorem vx {op op':CmpOp}{o o':D->D->G->Option (D×G)}(ho:aT X (compareOp op) (bU X.kw o))(ho':aT X (compareOp op') (bU X.kw o'))(ha:DE X a fa)(hb:DE X b fb)(hc:DE X c fc)
  (hm:lastMarks [op,op'] [b,c]=false:=by with_unfolding_all rfl):DT X (.Compare a [op,op'] [b,c] pos) (aH (eM o o' fa fb fc)):=.of (
 PT.imp (vO ho ho' ha.un hb.un hc.un hm) fun σ H Q h=>kO (fun _ _ _=>mx) (nU h))
def gJ (d:D)(g:G):Option Bool:=match d with
 | .non=>some false
 | .bl b=>some b
 | .int i=>some (i != 0)
 | .tup xs=>some (!xs.isEmpty)
 | .lst xs=>some (!xs.isEmpty)
 | .edc=>some false
 | .ref n=>match g[n]? with | some xs=>some (!xs.isEmpty) | none=>none
 | .str _=>none
 | .aQ _=>none
 | .fn _=>none
def bO (f:FE):FT:=fun σ g=>(f σ g).bind fun r=>(gJ r.1 r.2).map fun b=>(b,r.2)
theorem ag.isEmpty {K H ι}{ds:List D}{vs:List V}(h:ag K H ι ds vs):ds.isEmpty=vs.isEmpty:=by
 have:=h.length
 cases ds<;>cases vs<;>simp_all
theorem yF {K H ι g d v b}(G0:au K H ι g)(r:Rel K H ι d v)(h:gJ d g=some b):vJ K v H b:=by
 cases d with
 | non=>simp only [Rel] at r;subst r;cases h;rfl
 | bl x=>simp only [Rel] at r;subst r;cases h;rfl
 | int x=>simp only [Rel] at r;subst r;cases h;rfl
 | str x=>cases h
 | tup xs =>
  simp only [Rel] at r;obtain⟨a,vs,rfl,hq,hr⟩:=r;cases h
  exact .inr (.inl ⟨vs,hq.sq,by rw [hr.isEmpty]⟩)
 | lst xs =>
  simp only [Rel] at r;obtain⟨a,vs,rfl,hq,hr⟩:=r;cases h
  exact .inl ⟨vs,hq.sq,by rw [hr.isEmpty]⟩
 | edc =>
  simp only [Rel] at r;obtain⟨a,rfl,hq,_⟩:=r;cases h
  exact .inr (.inr ⟨[],hq,rfl⟩)
 | ref n =>
  simp only [Rel] at r;obtain⟨a,rfl,ha⟩:=r
  simp only [gJ] at h
  split at h
  . rename_i xs e
    cases h
    obtain⟨vs,h1,h2⟩:=G0.at e ha
    exact .inl ⟨vs,.of h1,by rw [h2.isEmpty]⟩
  . cases h
 | aQ n=>cases h
 | fn x=>cases h
theorem CS (ha:DE X a fa)(he:∀whole,isTrue a X.env whole=(do let v <- whole;standAt a.pos;holding [v] (truthy v)):=by intro _;rfl):DT X a (bO fa):=.of (
 PT.imp (wm ha.un he) fun σ H Q h=>by
  obtain⟨ι,σd,g,b,g',G0,S0,h,p⟩:=h
  obtain⟨⟨d,g1⟩,h1,h⟩:=bind_some h
  cases ht:gJ d g1 with
  | none=>rw [ht] at h;cases h
  | some k =>
   rw [ht] at h;cases h
   exact tD.bind G0 S0 h1 fun H1 ι1 v e1 G1 S1 r1=>⟨b,yF G1 r1 ht,p H1 ι1 e1 G1⟩)
def eY (ga gb:FT):FT:=fun σ g=>(ga σ g).bind fun r=>if r.1=true then gb σ r.2 else some (false,r.2)
def gZ (ga gb:FT):FT:=fun σ g=>(ga σ g).bind fun r=>if r.1=true then some (true,r.2) else gb σ r.2
def cy (ga:FT):FT:=fun σ g=>(ga σ g).bind fun r=>some (!r.1,r.2)
theorem yx (ha:DT X a ga):DW X (.BoolOp .And [a] pos) ga:=.of (yD ha.un)
theorem Cf (ha:DT X a ga):DW X (.BoolOp .Or [a] pos) ga:=.of (AR ha.un)
theorem zU (ha:DT X a ga)(hb:DW X (.BoolOp .And (b::rest) pos) gb):DW X (.BoolOp .And (a::b::rest) pos) (eY ga gb):=.of (
 PW.imp (Ai ha.un hb.un) fun σ H Q h=>by
  obtain⟨ι,σd,g,k,g',G0,S0,h,p⟩:=h
  obtain⟨⟨k1,g1⟩,h1,h⟩:=bind_some h
  refine ia.bind G0 S0 h1 fun H1 ι1 e1 G1 S1=>?_
  cases k1 with
  | true=>simp only [if_true] at h ⊢;exact⟨ι1,σd,g1,k,g',G1,S1,h,p.mono e1⟩
  | false=>simp only [Bool.false_eq_true,if_false] at h ⊢;cases h;exact p H1 ι1 e1 G1)
theorem DX (ha:DT X a ga)(hb:DW X (.BoolOp .Or (b::rest) pos) gb):DW X (.BoolOp .Or (a::b::rest) pos) (gZ ga gb):=.of (
 PW.imp (Et ha.un hb.un) fun σ H Q h=>by
  obtain⟨ι,σd,g,k,g',G0,S0,h,p⟩:=h
  obtain⟨⟨k1,g1⟩,h1,h⟩:=bind_some h
  refine ia.bind G0 S0 h1 fun H1 ι1 e1 G1 S1=>?_
  cases k1 with
  | false=>simp only [Bool.false_eq_true,if_false] at h ⊢;exact⟨ι1,σd,g1,k,g',G1,S1,h,p.mono e1⟩
  | true=>simp only [if_true] at h ⊢;cases h;exact p H1 ι1 e1 G1)
theorem DW.dt (h:DW X a ga):DT X a ga:=.of (PW.pt h.un)
theorem CQ (ha:DT X a ga):DT X (.UnaryOp .Not a pos) (cy ga):=.of (
 PT.imp (B9 ha.un) fun σ H Q h=>by
  obtain⟨ι,σd,g,k,g',G0,S0,h,p⟩:=h
  obtain⟨⟨k1,g1⟩,h1,h⟩:=bind_some h
  cases h
  exact ia.bind G0 S0 h1 fun H1 ι1 e1 G1 S1=>p H1 ι1 e1 G1)
def cT (fa fb:FE):FE:=fun σ g=>(fL (fa σ g)).bind fun r=>if r.1=true then fb σ r.2 else some (.bl false,r.2)
def i6 (fa fb:FE):FE:=fun σ g=>(fL (fa σ g)).bind fun r=>if r.1=true then some (.bl true,r.2) else fb σ r.2
def kA (fa:FE):FE:=fun σ g=>(fL (fa σ g)).bind fun r=>some (.bl (!r.1),r.2)
theorem Ah {op}(h:DE X a fa):DE X (.BoolOp op [a] pos) fa:=.of (Bi h.un)
theorem tT (ha:DE X a fa)(hb:DE X (.BoolOp .And (b::rest) pos) fb):DE X (.BoolOp .And (a::b::rest) pos) (cT fa fb):=.of (
 PE.imp (BW ha.un hb.un) fun σ H Q h=>by
  obtain⟨ι,σd,g,d,g',G0,S0,h,p⟩:=h
  obtain⟨⟨k1,g1⟩,h1,h⟩:=bind_some h
  have h1:=iq h1
  refine tD.bind G0 S0 h1 fun H1 ι1 v e1 G1 S1 r1=>⟨k1,by simpa [Rel] using r1,?_⟩
  cases k1 with
  | true=>simp only [if_true] at h ⊢;exact⟨ι1,σd,g1,d,g',G1,S1,h,p.mono e1⟩
  | false=>simp only [Bool.false_eq_true,if_false] at h ⊢;cases h;exact p H1 ι1 _ e1 G1 (by simp [Rel]))
theorem wF (ha:DE X a fa)(hb:DE X (.BoolOp .Or (b::rest) pos) fb):DE X (.BoolOp .Or (a::b::rest) pos) (i6 fa fb):=.of (
 PE.imp (Ez ha.un hb.un) fun σ H Q h=>by
  obtain⟨ι,σd,g,d,g',G0,S0,h,p⟩:=h
  obtain⟨⟨k1,g1⟩,h1,h⟩:=bind_some h
  have h1:=iq h1
  refine tD.bind G0 S0 h1 fun H1 ι1 v e1 G1 S1 r1=>⟨k1,by simpa [Rel] using r1,?_⟩
  cases k1 with
  | false=>simp only [Bool.false_eq_true,if_false] at h ⊢;exact⟨ι1,σd,g1,d,g',G1,S1,h,p.mono e1⟩
  | true=>simp only [if_true] at h ⊢;cases h;exact p H1 ι1 _ e1 G1 (by simp [Rel]))
theorem C4 (ha:DE X a fa):DE X (.UnaryOp .Not a pos) (kA fa):=.of (
 PE.imp (CV ha.un) fun σ H Q h=>by
  obtain⟨ι,σd,g,d,g',G0,S0,h,p⟩:=h
  obtain⟨⟨k1,g1⟩,h1,h⟩:=bind_some h
  have h1:=iq h1
  cases h
  exact tD.bind G0 S0 h1 fun H1 ι1 v e1 G1 S1 r1=>⟨k1,by simpa [Rel] using r1,p H1 ι1 _ e1 G1 (by simp [Rel])⟩)
def uS (ga:FT)(fa fb:FE):FE:=fun σ g=>(ga σ g).bind fun r=>if r.1=true then fa σ r.2 else fb σ r.2
theorem Ak (hc:DT X c ga)(ha:DE X a fa)(hb:DE X b fb):DE X (.IfExp c a b pos) (uS ga fa fb):=.of (
 PE.imp (vj hc.un ha.un hb.un) fun σ H Q h=>by
  obtain⟨ι,σd,g,d,g',G0,S0,h,p⟩:=h
  obtain⟨⟨k1,g1⟩,h1,h⟩:=bind_some h
  refine ia.bind G0 S0 h1 fun H1 ι1 e1 G1 S1=>?_
  cases k1 with
  | true=>simp only [if_true] at h ⊢;exact⟨ι1,σd,g1,d,g',G1,S1,h,p.mono e1⟩
  | false=>simp only [Bool.false_eq_true,if_false] at h ⊢;exact⟨ι1,σd,g1,d,g',G1,S1,h,p.mono e1⟩)
def aj:FA:=fun _ g=>some ([],g)
def aa (fa:FE)(fr:FA):FA:=fun σ g=>(fa σ g).bind fun r=>(fr σ r.2).bind fun q=>some (r.1::q.1,q.2)
theorem nO:DA X [] aj:=.of (PA.imp jf fun σ H Q h=>by
 obtain⟨ι,σd,g,d,g',G0,S0,h,p⟩:=h
 cases h;exact p H ι _ Ext.refl G0 (by simp [ag]))
theorem jE (ha:DE X e fa)(hr:DA X es fr)(hs:starEach (e::es) X.env=(false,eval e X.env)::starEach es X.env:=by rfl):DA X (e::es) (aa fa fr):=.of (
 PA.imp (e_ ha.un hr.un hs) fun σ H Q h=>by
  obtain⟨ι,σd,g,d,g',G0,S0,h,p⟩:=h
  obtain⟨⟨d1,g1⟩,h1,h⟩:=bind_some h
  obtain⟨⟨d2,g2⟩,h2,h⟩:=bind_some h
  cases h
  refine tD.bind G0 S0 h1 fun H1 ι1 v e1 G1 S1 r1=>?_
  refine eU.bind G1 S1 h2 fun H2 ι2 u e2 G2 S2 r2=>?_
  refine p H2 ι2 _ (e1.trans e2) G2 ?_
  simp only [ag]
  exact⟨_,_,rfl,Rel.ext e2 _ r1,r2⟩)
def aD (n:Nat):Bool:=decide (n<=16777216)
theorem aD.le {n:Nat}(h:aD n=true):n<=sizeLine:=by rw [sizeLine_eq];exact of_decide_eq_true h
def aG (ds:List D)(g:G):Option (D×G):=if aD ds.length=true then some (.tup ds,g) else none
def cZ (ds:List D)(g:G):Option (D×G):=if aD ds.length=true then some (.lst ds,g) else none
def mkRef (ds:List D)(g:G):Option (D×G):=if aD ds.length=true then some (.ref g.length,g ++ [ds]) else none
theorem vQ {K H ι g ds vs d g' Q}(G0:au K H ι g)(r:ag K H ι ds vs)(h:aG ds g=some (d,g'))(p:eF K H ι d g' Q):vs.length<=sizeLine /\ ∀q,H q=none->Q (.ref q) (upd H q (.tup vs)):=by
 unfold aG at h
 split at h
 . rename_i z
   cases h
   refine⟨by rw [<- r.length];exact aD.le z,fun q hq=>p _ _ _ (Ext.lay hq) (G0.lay hq) ?_⟩
   simp only [Rel]
   exact⟨q,vs,rfl,.inl ⟨.inl aR,G0.fresh hq⟩,ag.ext (Ext.lay hq) _ r⟩
 . cases h
theorem uQ {K H ι g ds vs d g' Q}(G0:au K H ι g)(r:ag K H ι ds vs)(h:cZ ds g=some (d,g'))(p:eF K H ι d g' Q):vs.length<=sizeLine /\ ∀q,H q=none->Q (.ref q) (upd H q (.lst vs)):=by
 unfold cZ at h
 split at h
 . rename_i z
   cases h
   refine⟨by rw [<- r.length];exact aD.le z,fun q hq=>p _ _ _ (Ext.lay hq) (G0.lay hq) ?_⟩
   simp only [Rel]
   exact⟨q,vs,rfl,.inl ⟨.inl aR,G0.fresh hq,G0.gW hq⟩,ag.ext (Ext.lay hq) _ r⟩
 . cases h
theorem u7 {K H ι g ds vs d g' Q}(G0:au K H ι g)(r:ag K H ι ds vs)(h:mkRef ds g=some (d,g'))(p:eF K H ι d g' Q):vs.length<=sizeLine /\ ∀q,H q=none->Q (.ref q) (upd H q (.lst vs)):=by
 unfold mkRef at h
 split at h
 . rename_i z
   cases h
   refine⟨by rw [<- r.length];exact aD.le z,fun q hq=>p _ _ _ (Ext.push hq) (G0.push hq r) ?_⟩
   simp only [Rel]
   exact⟨q,rfl,cW.new G0.len⟩
 . cases h
def aN (m:List D->G->Option (D×G))(fr:FA):FE:=fun σ g=>(fr σ g).bind fun r=>m r.1 r.2
theorem tK {x1}(h:DA X es fr):DE X (.Tuple es x1 pos) (aN aG fr):=.of (PE.imp (Bj h.un) fun σ H Q h=>by
 obtain⟨ι,σd,g,d,g',G0,S0,h,p⟩:=h
 obtain⟨⟨d1,g1⟩,h1,h⟩:=bind_some h
 exact eU.bind G0 S0 h1 fun H1 ι1 v e1 G1 S1 r1=>vQ G1 r1 h (p.mono e1))
theorem B0 (h:DA X es fr):DE X (.List es pos) (aN cZ fr):=.of (PE.imp (uC h.un) fun σ H Q h=>by
 obtain⟨ι,σd,g,d,g',G0,S0,h,p⟩:=h
 obtain⟨⟨d1,g1⟩,h1,h⟩:=bind_some h
 exact eU.bind G0 S0 h1 fun H1 ι1 v e1 G1 S1 r1=>uQ G1 r1 h (p.mono e1))
theorem uI (h:DA X es fr):DE X (.List es pos) (aN mkRef fr):=.of (PE.imp (uC h.un) fun σ H Q h=>by
 obtain⟨ι,σd,g,d,g',G0,S0,h,p⟩:=h
 obtain⟨⟨d1,g1⟩,h1,h⟩:=bind_some h
 exact eU.bind G0 S0 h1 fun H1 ι1 v e1 G1 S1 r1=>u7 G1 r1 h (p.mono e1))
end
inductive F where
 | nx | rt (d:D) | bk | ct
abbrev FS:=Sg->G->Option (F×Sg×G)
def m9 (K:KW)(H:Hp)(ι:Ix)(r:F)(σd':Sg)(g':G)(Dn:Ends):Prop :=
 ∀H' ι',Ext H ι H' ι'->au K H' ι' g'->match r with
  | .nx=>∀σ',aS K H' ι' σd' σ'->Dn.nx σ' H'
  | .bk=>∀σ',aS K H' ι' σd' σ'->Dn.bk σ' H'
  | .ct=>∀σ',aS K H' ι' σd' σ'->Dn.ct σ' H'
  | .rt d=>∀v,Rel K H' ι' d v->Dn.rt v H'
inductive w6 (K:KW)(f:FS)(Dn:Ends)(σ:L2.St)(H:Hp):Prop
 | mk (ι:Ix) (σd:Sg) (g:G) (r:F) (σd':Sg) (g':G) (h0:au K H ι g) (h1:aS K H ι σd σ) (h2:f σd g=some (r,σd',g')) (h3:m9 K H ι r σd' g' Dn):w6 K f Dn σ H
structure DS (X:Cx)(st:Stmt)(f:FS):Prop where of ::
 un:PS X st (w6 X.kw f)
structure gQ (X:Cx)(sts:List Stmt)(f:FS):Prop where of ::
 un:eL X sts (w6 X.kw f)
theorem PS.imp {X:Cx}{e:Stmt}{t t':TS}(h:PS X e t)(i:∀Dn σ H,t' Dn σ H->t Dn σ H):PS X e t':=fun pins s σ H Q I q=>h pins s σ H Q I (i Q σ H q)
theorem eL.imp {X:Cx}{e:List Stmt}{t t':TS}(h:eL X e t)(i:∀Dn σ H,t' Dn σ H->t Dn σ H):eL X e t':=fun pins s σ H Q I q=>h pins s σ H Q I (i Q σ H q)
theorem m9.mono {K H ι H1 ι1 r σd' g' Dn}(e:Ext H ι H1 ι1)(p:m9 K H ι r σd' g' Dn):m9 K H1 ι1 r σd' g' Dn:=fun H' ι' e' G'=>p H' ι' (e.trans e') G'
def aL:FS:=fun σ g=>some (.nx,σ,g)
def av (f1 f2:FS):FS:=fun σ g=>(f1 σ g).bind fun r=>match r.1 with | .nx=>f2 r.2.1 r.2.2 | _=>some r
def aB (f:FE):FS:=fun σ g=>(f σ g).bind fun r=>some (.rt r.1,σ,r.2)
def dG (f:FE):FS:=fun σ g=>(f σ g).bind fun r=>some (.nx,σ,r.2)
def bH (c:FT)(f1 f2:FS):FS:=fun σ g=>(c σ g).bind fun r=>if r.1=true then f1 σ r.2 else f2 σ r.2
section
variable {X:Cx}{st:Stmt}{rest:List Stmt}{f1 f2:FS}{e:Expr}{fe:FE}{pos:Pos}{gc:FT}
theorem zA:gQ X [] aL:=.of (eL.imp zP fun Dn σ H h=>by
 obtain⟨ι,σd,g,r,σd',g',G0,S0,h,p⟩:=h
 cases h
 exact p H ι Ext.refl G0 σ S0)
theorem v_ (h1:DS X st f1)(h2:gQ X rest f2):gQ X (st::rest) (av f1 f2):=.of (eL.imp (u5 h1.un h2.un) fun Dn σ H h=>by
 obtain⟨ι,σd,g,r,σd',g',G0,S0,h,p⟩:=h
 obtain⟨⟨r1,σ1,g1⟩,h1,h⟩:=bind_some h
 refine⟨ι,σd,g,r1,σ1,g1,G0,S0,h1,fun H1 ι1 e1 G1=>?_⟩
 cases r1 with
 | nx=>exact fun σ' S1=>⟨ι1,σ1,g1,r,σd',g',G1,S1,h,p.mono e1⟩
 | bk=>cases h;exact p H1 ι1 e1 G1
 | ct=>cases h;exact p H1 ι1 e1 G1
 | rt d=>cases h;exact p H1 ι1 e1 G1)
theorem yi (h1:DS X st f1):gQ X [st] f1:=.of (ze h1.un)
theorem yd:DS X (.Pass pos) aL:=.of (PS.imp yz fun Dn σ H h=>by
 obtain⟨ι,σd,g,r,σd',g',G0,S0,h,p⟩:=h
 cases h
 exact p H ι Ext.refl G0 σ S0)
theorem CT (he:DE X e fe):DS X (.Return (some e) pos) (aB fe):=.of (PS.imp (Bh he.un) fun Dn σ H h=>by
 obtain⟨ι,σd,g,r,σd',g',G0,S0,h,p⟩:=h
 obtain⟨⟨d1,g1⟩,h1,h⟩:=bind_some h
 cases h
 exact tD.bind G0 S0 h1 fun H1 ι1 v e1 G1 S1 r1=>p H1 ι1 e1 G1 v r1)
theorem yk (he:DE X e fe)(hs:swapsWith e none pos.line X.env=pure false:=by rfl):DS X (.Expr e pos) (dG fe):=.of (PS.imp (zm he.un hs) fun Dn σ H h=>by
 obtain⟨ι,σd,g,r,σd',g',G0,S0,h,p⟩:=h
 obtain⟨⟨d1,g1⟩,h1,h⟩:=bind_some h
 cases h
 exact tD.bind G0 S0 h1 fun H1 ι1 v e1 G1 S1 r1=>p H1 ι1 e1 G1 σ S1)
theorem BV {x j pos pos'}:DS X (.Expr (.Constant (.str x) j pos) pos') aL:=.of (PS.imp zY fun Dn σ H h=>by
 obtain⟨ι,σd,g,r,σd',g',G0,S0,h,p⟩:=h
 cases h
 exact p H ι Ext.refl G0 σ S0)
theorem Ei {c:Expr}{a b:List Stmt}(hc:DT X c gc)(ha:gQ X a f1)(hb:gQ X b f2):DS X (.If c a b pos) (bH gc f1 f2):=.of (PS.imp (El hc.un ha.un hb.un) fun Dn σ H h=>by
 obtain⟨ι,σd,g,r,σd',g',G0,S0,h,p⟩:=h
 obtain⟨⟨k,g1⟩,h1,h⟩:=bind_some h
 refine ia.bind G0 S0 h1 fun H1 ι1 e1 G1 S1=>?_
 cases k with
 | true=>simp only [if_true] at h ⊢;exact⟨ι1,σd,g1,r,σd',g',G1,S1,h,p.mono e1⟩
 | false=>simp only [Bool.false_eq_true,if_false] at h ⊢;exact⟨ι1,σd,g1,r,σd',g',G1,S1,h,p.mono e1⟩)
abbrev FG:=D->Sg->G->Option (Sg×G)
abbrev jP:=List D->Sg->G->Option (Sg×G)
inductive AS (K:KW)(f:FG)(v:V)(σ:L2.St)(H:Hp)(Q:(L2.St->Hp->Prop)):Prop
 | mk (ι:Ix) (σd:Sg) (g:G) (d:D) (σd':Sg) (g':G) (h0:au K H ι g) (h1:aS K H ι σd σ) (h2:Rel K H ι d v) (h3:f d σd g=some (σd',g')) (h4:∀H' ι' σ',Ext H ι H' ι'->au K H' ι' g'->aS K H' ι' σd' σ'->Q σ' H'):AS K f v σ H Q
inductive B7 (K:KW)(f:jP)(v:List V)(σ:L2.St)(H:Hp)(Q:(L2.St->Hp->Prop)):Prop
 | mk (ι:Ix) (σd:Sg) (g:G) (d:List D) (σd':Sg) (g':G) (h0:au K H ι g) (h1:aS K H ι σd σ) (h2:ag K H ι d v) (h3:f d σd g=some (σd',g')) (h4:∀H' ι' σ',Ext H ι H' ι'->au K H' ι' g'->aS K H' ι' σd' σ'->Q σ' H'):B7 K f v σ H Q
structure DG (X:Cx)(tg:Expr)(f:FG):Prop where of ::
 un:PG X tg (AS X.kw f)
structure uu (X:Cx)(tg:List Expr)(f:jP):Prop where of ::
 un:jO X tg (B7 X.kw f)
theorem PG.imp {X:Cx}{e:Expr}{t t':TG}(h:PG X e t)(i:∀v σ H Q,t' v σ H Q->t v σ H Q):PG X e t':=fun pins s σ H v u Q I r q=>h pins s σ H v u Q I r (i v σ H Q q)
theorem jO.imp {X:Cx}{e:List Expr}{t t':mH}(h:jO X e t)(i:∀v σ H Q,t' v σ H Q->t v σ H Q):jO X e t':=fun pins s σ H v u Q I r q=>h pins s σ H v u Q I r (i v σ H Q q)
def gN (i:Nat):FG:=fun d σ g=>some (σ.set i (some d),g)
theorem aS.set {K H ι σd σ d v}(S:aS K H ι σd σ)(r:Rel K H ι d v)(i:Nat):aS K H ι (σd.set i (some d)) (σ.set i (some v)):=by
 refine⟨by simp [S.1],fun j d' q=>?_⟩
 by_cases e:i=j
 . subst e
   have hi:i < σd.length:=by
    by_cases hi:i < σd.length
    . exact hi
    . rw [List.getElem?_eq_none_iff.mpr (by simpa using hi)] at q;cases q
   rw [List.getElem?_set_self hi] at q
   cases q
   exact⟨v,by rw [List.getElem?_set_self (by rw [<- S.1];exact hi)],r⟩
 . rw [List.getElem?_set_ne e] at q ⊢
   exact S.2 j d' q
theorem pH {i:Nat}{x:Str}(hN:X.N.Nodup)(hi:X.N[i]? = some x)(hx:Loc X.env.scope x)(hf:X.fn x=true\/X.env.scope.names.lookup x=some .local:=by first | exact .inl rfl | exact .inr rfl | assumption):DG X (.Name x pos) (gN i):=.of (
 PG.imp (yA hN hi hx hf) fun v σ H Q h=>by
  obtain⟨ι,σd,g,d,σd',g',G0,S0,r,h,p⟩:=h
  cases h
  exact p H ι _ Ext.refl G0 (S0.set r i))
def aY:jP:=fun ds σ g=>match ds with | []=>some (σ,g) | _=>none
def ax (t:FG)(u:jP):jP:=fun ds σ g=>match ds with | d::r=>(t d σ g).bind fun q=>u r q.1 q.2 | []=>none
theorem x_:uu X [] aY:=.of (jO.imp yn fun v σ H Q h=>by
 obtain⟨ι,σd,g,d,σd',g',G0,S0,r,h,p⟩:=h
 cases d with
 | nil=>cases h;simp only [ag] at r;exact⟨r,p H ι _ Ext.refl G0 S0⟩
 | cons _ _=>cases h)
theorem vd {e:Expr}{es:List Expr}{t:FG}{u:jP}(h1:DG X e t)(h2:uu X es u)
  (hs:(assignEach (e::es) X.env).map (·.2)=assign e X.env::(assignEach es X.env).map (·.2):=by rfl):uu X (e::es) (ax t u):=.of (jO.imp (vy h1.un h2.un hs) fun v σ H Q h=>by
 obtain⟨ι,σd,g,d,σd',g',G0,S0,r,h,p⟩:=h
 cases d with
 | nil=>cases h
 | cons d ds =>
  simp only [ag] at r
  obtain⟨v0,vr,rfl,r0,rr⟩:=r
  obtain⟨⟨σ1,g1⟩,h1,h⟩:=bind_some h
  exact⟨v0,vr,rfl,ι,σd,g,d,σ1,g1,G0,S0,r0,h1,fun H1 ι1 σ' e1 G1 S1=>⟨ι1,σ1,g1,ds,σd',g',G1,S1,ag.ext e1 _ rr,h,fun H2 ι2 σ2 e2 G2 S2=>p H2 ι2 σ2 (e1.trans e2) G2 S2⟩⟩)
def gT (n:Nat)(t:jP):FG:=fun d σ g=>match d with | .tup xs=>if xs.length=n then t xs σ g else none | _=>none
theorem Bm {es:List Expr}{k:Nat}{t:jP}{n:Nat}(hc:X.calm=true)(h:uu X es t)
  (hn:(assignEach es X.env).length=n:=by rfl) (hst:(assignEach es X.env).findIdx? (·.1)=none:=by rfl):DG X (.Tuple es k pos) (gT n t):=.of (PG.imp (BR hc h.un hn hst) fun v σ H Q h=>by
 obtain⟨ι,σd,g,d,σd',g',G0,S0,r,h,p⟩:=h
 cases d with
 | tup xs =>
  simp only [Rel] at r
  obtain⟨a,vs,rfl,hq,hr⟩:=r
  simp only [gT] at h
  split at h
  . rename_i z
    exact⟨a,vs,rfl,hq.sq,by rw [<- hr.length];exact z,ι,σd,g,xs,σd',g',G0,S0,hr,h,p⟩
  . cases h
 | _=>cases h)
def aF (f:FE)(t:FG):FS:=fun σ g=>(f σ g).bind fun r=>(t r.1 σ r.2).bind fun q=>some (.nx,q.1,q.2)
theorem zI {K t}{fe:FE}{Dn σ H}(h:w6 K (aF fe t) Dn σ H):vU (tD K fe) (AS K t) Dn σ H:=by
 obtain⟨ι,σd,g,r,σd',g',G0,S0,h,p⟩:=h
 obtain⟨⟨d1,g1⟩,h1,h⟩:=bind_some h
 obtain⟨⟨σ1,g2⟩,h2,h⟩:=bind_some h
 cases h
 exact tD.bind G0 S0 h1 fun H1 ι1 v e1 G1 S1 r1=>⟨ι1,σd,g1,d1,σ1,g2,G1,S1,r1,h2,fun H2 ι2 σ' e2 G2 S2=>p H2 ι2 (e1.trans e2) G2 σ' S2⟩
theorem ou {tg:Expr}{t:FG}(he:DE X e fe)(hg:DG X tg t)(hs:swapsWithSole [tg] e pos.line X.env=pure false:=by rfl)(hw:swappedStores [tg] e X.env=pure none:=by rfl)
 (h1:(assignEach [tg] X.env).map (·.2) = [assign tg X.env]:=by rfl):DS X (.Assign [tg] e pos) (aF fe t):=.of (PS.imp (A5 he.un hg.un hs hw h1) fun Dn σ H h=>zI h)
theorem tx {i:Nat}{x:Str}{pos':Pos}(hN:X.N.Nodup)(hi:X.N[i]? = some x)(hx:Loc X.env.scope x)(he:DE X e fe)(hs:swapsWith e (some (.Name x pos')) pos.line X.env=pure false:=by rfl)(hf:X.fn x=true\/X.env.scope.names.lookup x=some .local:=by first | exact .inl rfl | exact .inr rfl | assumption) :
  DS X (.Assign [.Name x pos'] e pos) (aF fe (gN i)):=.of (PS.imp (Dm hN hi hx he.un hs hf) fun Dn σ H h=>by
 obtain⟨ι,σd,g,r,σd',g',G0,S0,h,p⟩:=h
 obtain⟨⟨d1,g1⟩,h1,h⟩:=bind_some h
 cases h
 exact tD.bind G0 S0 h1 fun H1 ι1 v e1 G1 S1 r1=>p H1 ι1 e1 G1 _ (S1.set r1 i))
def putD (o i v:D)(g:G):Option G:=match o,i with
 | .ref n,.int k=>match g[n]? with
  | some xs=>match hG xs.length k with
   | some j=>some (g.set n (xs.set j v))
   | none=>none
  | none=>none
 | _,_=>none
end
abbrev FI:=Sg->G->Option (List D×G)
structure fz (H:Hp)(ι:Ix)(H':Hp)(ι':Ix):Prop where
 same:∀a o,H a=some o->a ∉ ι.ix->H' a=some o
 there:∀a,H a≠none->H' a≠none
 more:∃m,ι'.ix=ι.ix++m /\ ∀a∈m,H a=none
 hid:∃hs,ι'.hd=hs++ι.hd /\ ∀b∈hs,H b=none
 kds:∀i,i < ι.ix.length->ι'.kd i=ι.kd i
theorem Ext.bV {H ι H1 ι1}(e:Ext H ι H1 ι1):fz H ι H1 ι1:=⟨e.same,e.there,e.more,⟨[],e.hid,fun _ z=>by simp at z⟩,e.kds⟩
theorem fz.old {H ι H1 ι1}(a:fz H ι H1 ι1){c:Addr}{o:HO}(h:H c=some o)(n:c ∉ ι.ix):c ∉ ι1.ix:=fun z=>by
 obtain⟨m1,e1,f1⟩:=a.more
 rw [e1] at z
 rcases List.mem_append.mp z with z | z
 . exact n z
 . rw [f1 c z] at h;cases h
theorem fz.Cg {H ι H1 ι1}(a:fz H ι H1 ι1){c:Addr}{o:HO}(h:H c=some o)(n:c ∉ ι.hd):c ∉ ι1.hd:=fun z=>by
 obtain⟨m1,e1,f1⟩:=a.hid
 rw [e1] at z
 rcases List.mem_append.mp z with z | z
 . rw [f1 c z] at h;cases h
 . exact n z
theorem fz.at {H ι H1 ι1}(a:fz H ι H1 ι1){i:Nat}{c:Addr}{b:Bool}(h:cW ι i c b):cW ι1 i c b:=by
 obtain⟨m1,e1,_⟩:=a.more
 have hl:=(List.getElem?_eq_some_iff.mp h.1).1
 refine⟨?_,by rw [a.kds i hl];exact h.2⟩
 rw [e1,List.getElem?_append_left hl];exact h.1
theorem iR.bV {K H ι H1 ι1 a xs}(e:fz H ι H1 ι1)(h:iR K H ι a xs):iR K H1 ι1 a xs:=by
 rcases h with⟨h | ⟨o,h⟩,n,k⟩ | h
 . exact .inl ⟨.inl (e.same _ _ h n),e.old h n,e.Cg h k⟩
 . exact .inl ⟨.inr ⟨o,e.same _ _ h n⟩,e.old h n,e.Cg h k⟩
 . exact .inr h
theorem ic.bV {K H ι H1 ι1 a xs}(e:fz H ι H1 ι1)(h:ic K H ι a xs):ic K H1 ι1 a xs:=by
 rcases h with⟨h | ⟨o,h⟩,n⟩ | h
 . exact .inl ⟨.inl (e.same _ _ h n),e.old h n⟩
 . exact .inl ⟨.inr ⟨o,e.same _ _ h n⟩,e.old h n⟩
 . exact .inr h
mutual
theorem Rel.bV {K H ι H1 ι1}(e:fz H ι H1 ι1):∀(d:D) {v:V},Rel K H ι d v->Rel K H1 ι1 d v
 | .non,v,h=>by simpa [Rel] using h
 | .bl _,v,h=>by simpa [Rel] using h
 | .int _,v,h=>by simpa [Rel] using h
 | .str _,v,h=>by simpa [Rel] using h
 | .tup xs,v,h=>by
  simp only [Rel] at h ⊢
  obtain⟨a,vs,e1,hq,hr⟩:=h
  exact⟨a,vs,e1,hq.bV e,ag.bV e xs hr⟩
 | .lst xs,v,h=>by
  simp only [Rel] at h ⊢
  obtain⟨a,vs,e1,hq,hr⟩:=h
  exact⟨a,vs,e1,hq.bV e,ag.bV e xs hr⟩
 | .edc,v,h=>by
  simp only [Rel] at h ⊢
  obtain⟨a,e1,hq,hr⟩:=h
  exact⟨a,e1,e.same _ _ hq hr,e.old hq hr⟩
 | .ref n,v,h=>by
  simp only [Rel] at h ⊢
  obtain⟨a,e1,hq⟩:=h
  exact⟨a,e1,e.at hq⟩
 | .aQ n,v,h=>by
  simp only [Rel] at h ⊢
  obtain⟨a,e1,hq⟩:=h
  exact⟨a,e1,e.at hq⟩
 | .fn x,v,h=>by simpa [Rel] using h
theorem ag.bV {K H ι H1 ι1}(e:fz H ι H1 ι1):∀(ds:List D) {vs:List V},ag K H ι ds vs->ag K H1 ι1 ds vs
 | [],vs,h=>by simpa [ag] using h
 | d::ds,vs,h=>by
  simp only [ag] at h ⊢
  obtain⟨v,vr,e1,hq,hr⟩:=h
  exact⟨v,vr,e1,Rel.bV e d hq,ag.bV e ds hr⟩
end
def et (K:KW)(J:It)(H:Hp)(ι:Ix)(ds:List D):Prop :=
 ∀(i:Nat) H1 ι1 g1,fz H ι H1 ι1->au K H1 ι1 g1->(ds.length<=i->J.stop i H1) /\ ∀d,ds[i]? = some d->J.go i H1 /\ ∀x H2,J.yld i H1 x H2->Ext H1 ι1 H2 ι1/\au K H2 ι1 g1/\Rel K H2 ι1 d x
inductive Fw (K:KW)(f:FI)(σ:L2.St)(H:Hp)(R:(It->Hp->Prop)):Prop
 | mk (ι:Ix) (σd:Sg) (g:G) (ds:List D) (g':G) (h0:au K H ι g) (h1:aS K H ι σd σ) (h2:f σd g=some (ds,g')) (h3:∀H' ι' J,Ext H ι H' ι'->au K H' ι' g'->et K J H' ι' ds->R J H'):Fw K f σ H R
structure DI (X:Cx)(tg iter:Expr)(f:FI):Prop where of ::
 un:PI X tg iter (Fw X.kw f)
theorem PI.imp {X:Cx}{tg e:Expr}{t t':TI}(h:PI X tg e t)(i:∀σ H Q,t' σ H Q->t σ H Q):PI X tg e t':=fun pins s σ H Q I q=>h pins s σ H Q I (i σ H Q q)
theorem et.lst {K H ι a vs ds}(hq:iR K H ι a vs)(hr:ag K H ι ds vs):et K (wZ K a) H ι ds:=fun i H1 ι1 g1 e1 G1 =>
 ⟨fun hl=>⟨vs,(hq.bV e1).sq,by rw [<- hr.length];exact hl⟩,fun d hd=>by
  obtain⟨v,hv,rv⟩:=(ag.bV e1 _ hr).get hd
  refine⟨⟨vs,v,(hq.bV e1).sq,hv⟩,fun x H2 y=>?_⟩
  obtain⟨rfl,y⟩:=y
  have:=y vs (hq.bV e1).sq
  rw [hv] at this;cases this
  exact⟨Ext.refl,G1,rv⟩⟩
theorem et.F4 {K H ι a vs ds}(hq:ic K H ι a vs)(hr:ag K H ι ds vs):et K (BC K a) H ι ds:=fun i H1 ι1 g1 e1 G1 =>
 ⟨fun hl=>⟨vs,(hq.bV e1).sq,by rw [<- hr.length];exact hl⟩,fun d hd=>by
  obtain⟨v,hv,rv⟩:=(ag.bV e1 _ hr).get hd
  refine⟨⟨vs,v,(hq.bV e1).sq,hv⟩,fun x H2 y=>?_⟩
  obtain⟨rfl,y⟩:=y
  have:=y vs (hq.bV e1).sq
  rw [hv] at this;cases this
  exact⟨Ext.refl,G1,rv⟩⟩
theorem et.dj {K H ι}{lo:Int}{n:Nat}:et K (tf lo n) H ι ((List.range n).map fun(k:Nat)=>D.int (lo+k)):=fun i H1 ι1 g1 e1 G1 =>
 ⟨fun hl=>(by show n<=i;simpa using hl),fun d hd=>by
  have hi:i<n:=by
   have:=(List.getElem?_eq_some_iff.mp hd).1
   simpa using this
  refine⟨hi,fun x H2 y=>?_⟩
  obtain⟨rfl,rfl⟩:=y
  have e:d=D.int (lo+i):=by simpa [List.getElem?_map,List.getElem?_range hi] using hd.symm
  subst e
  exact⟨Ext.refl,G1,by simp [Rel]⟩⟩
section
variable {X:Cx}{tg l a b:Expr}{fe:FE}{fr:FA}{pos p:Pos}
def mO (f:FE):FI:=fun σ g=>(f σ g).bind fun r=>match r.1 with | .tup xs=>some (xs,r.2) | _=>none
def mR (f:FE):FI:=fun σ g=>(f σ g).bind fun r=>match r.1 with | .lst xs=>some (xs,r.2) | _=>none
theorem AU (hl:DE X l fe):DI X tg l (mO fe):=.of (PI.imp (Cr hl.un) fun σ H Q h=>by
 obtain⟨ι,σd,g,ds,g',G0,S0,h,p⟩:=h
 obtain⟨⟨d1,g1⟩,h1,h⟩:=bind_some h
 cases d1 with
 | tup xs =>
  cases h
  refine tD.bind G0 S0 h1 fun H1 ι1 v e1 G1 S1 r1=>?_
  simp only [Rel] at r1
  obtain⟨a,vs,rfl,hq,hr⟩:=r1
  exact⟨a,rfl,⟨vs,hq.sq⟩,p H1 ι1 _ e1 G1 (.F4 hq hr)⟩
 | _=>cases h)
theorem Cw (hl:DE X l fe):DI X tg l (mR fe):=.of (PI.imp (qq hl.un) fun σ H Q h=>by
 obtain⟨ι,σd,g,ds,g',G0,S0,h,p⟩:=h
 obtain⟨⟨d1,g1⟩,h1,h⟩:=bind_some h
 cases d1 with
 | lst xs =>
  cases h
  refine tD.bind G0 S0 h1 fun H1 ι1 v e1 G1 S1 r1=>?_
  simp only [Rel] at r1
  obtain⟨a,vs,rfl,hq,hr⟩:=r1
  exact⟨a,rfl,⟨vs,hq.sq⟩,p H1 ι1 _ e1 G1 (.lst hq hr)⟩
 | _=>cases h)
def da (i:Int):Bool:=Nat.ble i.natAbs 4611686018427387903
theorem da.and {i:Int}(h:da i=true):-(2 ^ 62)<=i/\i<2 ^ 62:=by
 have:=Nat.le_of_ble_eq_true h
 omega
theorem da.of {i:Int}(h1:-1000000<=i)(h2:i<=1000000):da i=true:=Nat.ble_eq_true_of_le (by omega)
def iM (fr:FA):FI:=fun σ g=>(fr σ g).bind fun r=>match r.1 with | [.int j]=>if da j=true then some ((List.range j.toNat).map fun(k:Nat)=>D.int (0+k),r.2) else none | _=>none
def mC (fr:FA):FI:=fun σ g=>(fr σ g).bind fun r=>match r.1 with | [.int i,.int j]=>if(da i&&da j)=true then some ((List.range (j-i).toNat).map fun(k:Nat)=>D.int (i+k),r.2) else none | _=>none
theorem D5 (hg:Gl X "range")(hm:X.mg "range" = none)(ha:DA X [a] fr)(hs:starEach [a] X.env = [(false,eval a X.env)]:=by rfl):DI X tg (.Call (.Name "range" p) [a] [] pos) (iM fr):=.of (
 PI.imp (tU hg hm ha.un hs) fun σ H Q h=>by
  obtain⟨ι,σd,g,ds,g',G0,S0,h,p⟩:=h
  obtain⟨⟨d1,g1⟩,h1,h⟩:=bind_some h
  refine eU.bind G0 S0 h1 fun H1 ι1 v e1 G1 S1 r1=>?_
  dsimp only at h
  split at h
  . rename_i j
    split at h
    . rename_i z
      cases h
      simp only [ag,Rel] at r1
      obtain⟨_,_,rfl,rfl,rfl⟩:=r1
      exact⟨j,rfl,(da.and z).1,(da.and z).2,p H1 ι1 _ e1 G1 .dj⟩
    . cases h
  . cases h)
theorem DZ (hg:Gl X "range")(hm:X.mg "range" = none)(ha:DA X [a,b] fr)(hs:starEach [a,b] X.env = [(false,eval a X.env),(false,eval b X.env)]:=by rfl)(hs2:starEach [b] X.env = [(false,eval b X.env)]:=by rfl):DI X tg (.Call (.Name "range" p) [a,b] [] pos) (mC fr):=.of (
 PI.imp (sJ hg hm ha.un hs hs2) fun σ H Q h=>by
  obtain⟨ι,σd,g,ds,g',G0,S0,h,p⟩:=h
  obtain⟨⟨d1,g1⟩,h1,h⟩:=bind_some h
  refine eU.bind G0 S0 h1 fun H1 ι1 v e1 G1 S1 r1=>?_
  dsimp only at h
  split at h
  . rename_i i j
    split at h
    . rename_i z
      rw [Bool.and_eq_true] at z
      cases h
      simp only [ag,Rel] at r1
      obtain⟨_,_,rfl,rfl,_,_,rfl,rfl,rfl⟩:=r1
      exact⟨i,j,rfl,⟨(da.and z.1).1,(da.and z.1).2,(da.and z.2).1,(da.and z.2).2⟩,p H1 ι1 _ e1 G1 .dj⟩
    . cases h
  . cases h)
def forL (t:FG)(b:FS):List D->FS
 | [],σ,g=>some (.nx,σ,g)
 | d::ds,σ,g=>(t d σ g).bind fun q=>(b q.1 q.2).bind fun r=>match r.1 with
  | .nx=>forL t b ds r.2.1 r.2.2
  | .ct=>forL t b ds r.2.1 r.2.2
  | .bk=>some (.nx,r.2.1,r.2.2)
  | .rt d=>some (.rt d,r.2.1,r.2.2)
def ed (i:FI)(t:FG)(b:FS):FS:=fun σ g=>(i σ g).bind fun r=>forL t b r.1 σ r.2
inductive v3 (X:Cx)(t:FG)(b:FS)(ds:List D)(H1:Hp)(ι1:Ix)(r:F)(σd':Sg)(g':G)(i:Nat)(σ2:L2.St)(H2:Hp):Prop
 | mk (ι2:Ix) (σd2:Sg) (g2:G) (e2:Ext H1 ι1 H2 ι2) (G2:au X.kw H2 ι2 g2) (S2:aS X.kw H2 ι2 σd2 σ2) (hf:forL t b (ds.drop i) σd2 g2=some (r,σd',g')):v3 X t b ds H1 ι1 r σd' g' i σ2 H2
theorem Az {iter:Expr}{body:List Stmt}{fi:FI}{t:FG}{b:FS}(hp:PassesOwn (model X.prog X.w) X.A X.env X.xe)(hc:X.calm=true)(hi:DI X tg iter fi)(hg:DG X tg t)(hb:gQ X body b)
   (hs:∀x,foldedSetIterable iter X.env x=pure x:=by intro _;rfl):DS X (.For tg iter body [] pos) (ed fi t b):=.of (PS.imp (uy hp hc hi.un hg.un hb.un hs) fun Dn σ H h=>by
 obtain⟨ι,σd,g,r,σd',g',G0,S0,h,p⟩:=h
 obtain⟨⟨ds,g1⟩,h1,h⟩:=bind_some h
 refine⟨ι,σd,g,ds,g1,G0,S0,h1,fun H1 ι1 J e1 G1 J1=>?_⟩
 dsimp only at h
 refine⟨fun i m σ2 H2=>m=ds.length-i/\i<=ds.length/\v3 X t b ds H1 ι1 r σd' g' i σ2 H2,
   ⟨ds.length,by simp,Nat.zero_le _,ι1,σd,g1,Ext.refl,G1,S0.ext e1,by simpa using h⟩,?_⟩
 rintro i m σ2 H2 ⟨rfl,hi,ι2,σd2,g2,e2,G2,S2,hf⟩
 obtain⟨st,go⟩:=J1 i H2 ι2 g2 e2.bV G2
 by_cases hlt:i<ds.length
 . rw [List.drop_eq_getElem_cons hlt] at hf
   simp only [forL] at hf
   obtain⟨⟨σ3,g3⟩,h3,hf⟩:=bind_some hf
   obtain⟨⟨r4,σ4,g4⟩,h4,hf⟩:=bind_some hf
   obtain⟨go,yl⟩:=go ds[i] (List.getElem?_eq_getElem hlt)
   refine .inr ⟨go,fun σ5 H5=>v3 X t b ds H1 ι1 r σd' g' (i+1) σ5 H5,?_,?_⟩
   . rintro σ5 H5 ⟨ι5,σd5,g5,e5,G5,S5,h5⟩
     exact⟨ds.length-(i+1),by omega,rfl,hlt,ι5,σd5,g5,e5,G5,S5,h5⟩
   . intro x H' y
     obtain⟨e3,G3,r3⟩:=yl x H' y
     refine⟨ι2,σd2,g2,ds[i],σ3,g3,G3,S2.ext e3,r3,h3,fun H6 ι6 σ6 e6 G6 S6=>?_⟩
     refine⟨ι6,σ3,g3,r4,σ4,g4,G6,S6,h4,fun H7 ι7 e7 G7=>?_⟩
     have eall:=e2.trans (e3.trans (e6.trans e7))
     cases r4 with
     | nx=>exact fun σ' S7=>⟨ι7,σ4,g4,eall,G7,S7,hf⟩
     | ct=>exact fun σ' S7=>⟨ι7,σ4,g4,eall,G7,S7,hf⟩
     | bk=>cases hf;exact fun σ' S7=>p H7 ι7 (e1.trans eall) G7 σ' S7
     | rt d=>cases hf;exact fun v r7=>p H7 ι7 (e1.trans eall) G7 v r7
 . have e:i=ds.length:=by omega
   subst e
   simp only [List.drop_length,forL] at hf
   cases hf
   exact .inl ⟨st (Nat.le_refl _),p H2 ι2 (e1.trans e2) G2 σ2 S2⟩)
def gA (c:FT)(b:FS):Nat->FS
 | 0,_,_=>none
 | n+1,σ,g=>(c σ g).bind fun k=>if k.1=true then(b σ k.2).bind fun r=>match r.1 with
   | .nx=>gA c b n r.2.1 r.2.2
   | .ct=>gA c b n r.2.1 r.2.2
   | .bk=>some (.nx,r.2.1,r.2.2)
   | .rt d=>some (.rt d,r.2.1,r.2.2)
  else some (.nx,σ,k.2)
def i5 (n:Nat)(c:FT)(b:FS):FS:=gA c b n
inductive zZ (X:Cx)(gc:FT)(b:FS)(H:Hp)(ι:Ix)(r:F)(σd':Sg)(g':G)(m:Nat)(σ2:L2.St)(H2:Hp):Prop
 | mk (ι2:Ix) (σd2:Sg) (g2:G) (e2:Ext H ι H2 ι2) (G2:au X.kw H2 ι2 g2) (S2:aS X.kw H2 ι2 σd2 σ2) (hf:gA gc b m σd2 g2=some (r,σd',g')):zZ X gc b H ι r σd' g' m σ2 H2
theorem vV {c:Expr}{body:List Stmt}{gc:FT}{b:FS}(n:Nat)(hp:PassesOwn (model X.prog X.w) X.A X.env X.xe)(hc:DT X c gc)(hb:gQ X body b):DS X (.While c body [] pos) (i5 n gc b):=.of (PS.imp (uX hp hc.un hb.un) fun Dn σ H h=>by
 obtain⟨ι,σd,g,r,σd',g',G0,S0,h,p⟩:=h
 refine⟨zZ X gc b H ι r σd' g',⟨n,ι,σd,g,Ext.refl,G0,S0,h⟩,?_⟩
 rintro m σ2 H2 ⟨ι2,σd2,g2,e2,G2,S2,hf⟩
 cases m with
 | zero=>cases hf
 | succ m =>
  simp only [gA] at hf
  obtain⟨⟨k,g3⟩,h3,hf⟩:=bind_some hf
  refine ia.bind G2 S2 h3 fun H3 ι3 e3 G3 S3=>?_
  cases k with
  | false =>
   simp only [Bool.false_eq_true,if_false] at hf ⊢
   cases hf
   exact p H3 ι3 (e2.trans e3) G3 σ2 S3
  | true =>
   simp only [if_true] at hf ⊢
   obtain⟨⟨r4,σ4,g4⟩,h4,hf⟩:=bind_some hf
   refine⟨zZ X gc b H ι r σd' g' m,fun σ5 H5 q=>⟨m,Nat.lt_succ_self _,q⟩,?_⟩
   refine⟨ι3,σd2,g3,r4,σ4,g4,G3,S3,h4,fun H7 ι7 e7 G7=>?_⟩
   have eall:=e2.trans (e3.trans e7)
   cases r4 with
   | nx=>exact fun σ' S7=>⟨ι7,σ4,g4,eall,G7,S7,hf⟩
   | ct=>exact fun σ' S7=>⟨ι7,σ4,g4,eall,G7,S7,hf⟩
   | bk=>cases hf;exact fun σ' S7=>p H7 ι7 eall G7 σ' S7
   | rt d=>cases hf;exact fun v r7=>p H7 ι7 eall G7 v r7)
end
abbrev Fn:=List D->G->Option (D×G)
def i7 (K:KW)(n:Nat)(fn:Fn):Sp:=fun vs H Q _=>vs.length=n /\ ∃ι g ds d g',au K H ι g/\ag K H ι ds vs/\fn ds g=some (d,g')/\eF K H ι d g' Q
mutual
def bp (n:Nat):D->Bool
 | .ref k=>decide (k<n)
 | .aQ k=>decide (k<n)
 | .tup xs=>aP n xs
 | .lst xs=>aP n xs
 | _=>true
def aP (n:Nat):List D->Bool
 | []=>true
 | d::ds=>bp n d&&aP n ds
end
def settle (n:Nat)(d:D)(g':G):Option (D×G) :=
 if g'.length=n then some (d,g') else
  if(g'.take n).all (aP n) then
   match d with
   | .ref k=>if k<n then some (d,g'.take n) else match g'[k]? with
    | some xs=>if aP n xs then some (.lst xs,g'.take n) else none
    | none=>none
   | d=>if bp n d then some (d,g'.take n) else none
  else none
def az (keep:Bool)(nN nP:Nat)(b:FS):Fn:=fun ds g =>
 if ds.length=nP then(b (ds.map some++List.replicate (nN-nP) none) g).bind fun r=>match r.1 with
  | .rt d=>if keep then some (d,r.2.2) else settle g.length d r.2.2
  | .nx=>if keep then some (.non,r.2.2) else settle g.length .non r.2.2
  | _=>none
 else none
def Ix.cut (ι:Ix)(n:Nat):Ix:=⟨ι.ix.take n,ι.hd,ι.kd⟩
mutual
theorem Rel.cut {K H ι}(n:Nat):∀(d:D) {v:V},bp n d=true->Rel K H ι d v->Rel K H (Ix.cut ι n) d v
 | .non,v,_,h=>by simpa [Rel] using h
 | .bl _,v,_,h=>by simpa [Rel] using h
 | .int _,v,_,h=>by simpa [Rel] using h
 | .str _,v,_,h=>by simpa [Rel] using h
 | .tup xs,v,z,h=>by
  simp only [Rel] at h ⊢
  obtain⟨a,vs,e1,hq,hr⟩:=h
  refine⟨a,vs,e1,?_,ag.cut n xs z hr⟩
  rcases hq with⟨hq,hn⟩ | hq
  . exact .inl ⟨hq,fun m=>hn (List.mem_of_mem_take m)⟩
  . exact .inr hq
 | .lst xs,v,z,h=>by
  simp only [Rel] at h ⊢
  obtain⟨a,vs,e1,hq,hr⟩:=h
  refine⟨a,vs,e1,?_,ag.cut n xs z hr⟩
  rcases hq with⟨hq,hn,hh⟩ | hq
  . exact .inl ⟨hq,fun m=>hn (List.mem_of_mem_take m),hh⟩
  . exact .inr hq
 | .edc,v,_,h=>by
  simp only [Rel] at h ⊢
  obtain⟨a,e1,hq,hr⟩:=h
  exact⟨a,e1,hq,fun m=>hr (List.mem_of_mem_take m)⟩
 | .ref k,v,z,h=>by
  simp only [Rel] at h ⊢
  obtain⟨a,e1,hq⟩:=h
  have z':k<n:=of_decide_eq_true z
  exact⟨a,e1,by show(ι.ix.take n)[k]? = some a;rw [List.getElem?_take_of_lt z'];exact hq.1,hq.2⟩
 | .aQ k,v,z,h=>by
  simp only [Rel] at h ⊢
  obtain⟨a,e1,hq⟩:=h
  have z':k<n:=of_decide_eq_true z
  exact⟨a,e1,by show(ι.ix.take n)[k]? = some a;rw [List.getElem?_take_of_lt z'];exact hq.1,hq.2⟩
 | .fn x,v,_,h=>by simpa [Rel] using h
theorem ag.cut {K H ι}(n:Nat):∀(ds:List D) {vs:List V},aP n ds=true->ag K H ι ds vs->ag K H (Ix.cut ι n) ds vs
 | [],vs,_,h=>by simpa [ag] using h
 | d::ds,vs,z,h=>by
  simp only [ag] at h ⊢
  simp only [aP,Bool.and_eq_true] at z
  obtain⟨v,vr,e1,hq,hr⟩:=h
  exact⟨v,vr,e1,Rel.cut n d z.1 hq,ag.cut n ds z.2 hr⟩
end
theorem au.cut {K H ι g}(n:Nat)(h:au K H ι g)(z:(g.take n).all (aP n)=true):au K H (Ix.cut ι n) (g.take n):=by
 refine⟨h.nd.sublist (List.take_sublist _ _),by simp [Ix.cut,h.len],fun b hb=>⟨fun m=>(h.hid b hb).1 (List.mem_of_mem_take m),(h.hid b hb).2⟩,fun i xs q=>?_⟩
 have hi:i<n:=by
  have:=(List.getElem?_eq_some_iff.mp q).1
  rw [List.length_take] at this;omega
 rw [List.getElem?_take_of_lt hi] at q
 obtain⟨a,o,vs,h1,h2,ov,h3⟩:=h.at_ i xs q
 refine⟨a,o,vs,(by show(ι.ix.take n)[i]? = some a;rw [List.getElem?_take_of_lt hi];exact h1),h2,ov,ag.cut n xs ?_ h3⟩
 exact List.all_eq_true.mp z xs (List.mem_of_getElem? (i:=i) (by rw [List.getElem?_take_of_lt hi];exact q))
theorem Ext.cut {H ι H' ι' n}(e:Ext H ι H' ι')(hn:ι.ix.length=n):Ext H ι H' (Ix.cut ι' n):=by
 obtain⟨m,e1,f⟩:=e.more
 refine⟨e.same,e.there,⟨[],?_,fun _ z=>by simp at z⟩,e.hid,e.kds⟩
 subst hn
 show ι'.ix.take _=_
 rw [e1];simp
theorem tv {K H ι g H' ι' g' d g'' dd v}(G0:au K H ι g)(e:Ext H ι H' ι')(G1:au K H' ι' g')(r:Rel K H' ι' d v)(h:settle g.length d g'=some (dd,g'')) :
   ∃ι'',Ext H ι H' ι''/\au K H' ι'' g''/\Rel K H' ι'' dd v:=by
 unfold settle at h
 split at h
 . cases h;exact⟨ι',e,G1,r⟩
 split at h
 . rename_i z
   refine⟨Ix.cut ι' g.length,e.cut G0.len,?_⟩
   have Gc:=G1.cut g.length z
   split at h
   . rename_i k
     split at h
     . rename_i hk
       cases h
       exact⟨Gc,Rel.cut _ _ (decide_eq_true hk) r⟩
     . rename_i hk
       split at h
       . rename_i xs hx
         split at h
         . rename_i hz
           cases h
           refine⟨Gc,?_⟩
           simp only [Rel] at r ⊢
           obtain⟨a,rfl,ha⟩:=r
           obtain⟨vs,hv,hr⟩:=G1.at hx ha
           refine⟨a,vs,rfl,.inl ⟨.inl hv,fun m=>?_,fun m=>(G1.hid a m).1 (List.mem_of_getElem? ha.1)⟩,ag.cut _ _ hz hr⟩
           obtain⟨j,hj,ej⟩:=List.mem_iff_getElem.mp (show a∈ι'.ix.take g.length from m)
           have hjl:j<g.length:=by rw [List.length_take] at hj;omega
           have hj':j < ι'.ix.length:=by rw [List.length_take] at hj;omega
           rw [List.getElem_take] at ej
           obtain⟨hk',ek⟩:=List.getElem?_eq_some_iff.mp ha.1
           have:j=k:=(List.getElem_inj G1.nd).mp (ej.trans ek.symm)
           omega
         . cases h
       . cases h
   . split at h
     . rename_i hz
       cases h
       exact⟨Gc,Rel.cut _ _ hz r⟩
     . cases h
 . cases h
section
variable {P:Program}{w:World}{K:KW}{mg:Str->Option Value}{base:Heap}
theorem yO {k n f fd ps}{fn:Fn}(hn:∀ds g,fn ds g=none):cL P K.w K.fr K.mg base fM k f fd ps (i7 K n fn) :=
 ⟨fun vs H Q E ⟨_,ι,g,ds,d,g',_,_,h,_⟩=>(by rw [hn] at h;cases h),fun A outer s H args us vs Q E _ _ _ _ ⟨_,ι,g,ds,d,g',_,_,h,_⟩=>(by rw [hn] at h;cases h)⟩
theorem qw {K H ι ds vs}{N:List Str}(r:ag K H ι ds vs)(hl:ds.length<=N.length):aS K H ι (ds.map some++List.replicate (N.length-ds.length) none) (L2.start N vs):=by
 have e:=r.length
 refine⟨by unfold L2.start;simp [e],fun i d q=>?_⟩
 have hi:i<ds.length:=by
  by_cases hi:i<ds.length
  . exact hi
  . rw [List.getElem?_append_right (by simpa using hi),List.getElem?_replicate] at q
    split at q<;>cases q
 rw [List.getElem?_append_left (by simpa using hi),List.getElem?_map] at q
 cases hd:ds[i]? with
 | none=>rw [hd] at q;cases q
 | some d' =>
  rw [hd] at q;cases q
  obtain⟨v,hv,rv⟩:=r.get hd
  refine⟨v,?_,rv⟩
  unfold L2.start
  rw [List.getElem?_append_left (by rw [List.length_map,<- e];exact hi),List.getElem?_map,hv];rfl
theorem EN {x qual:Str}{st:Stmt}{f:Addr}{fd:FuncData}{N ps:List Str}{k:Nat}{keep:Bool}{b:FS}(F:qg K.fr x qual st f fd)(S:fU N ps (bj st))(hN:ps.length<=N.length)
  (hb:∀(cdv:Value) (A:Around) (outer:List Env) (s:Shared) (H:Hp) (E:XK),aC k (A.deeper (envOfC qual (bj st) s.heap.objs.size f cdv)) ->
   gQ (ja fM P K.w K.fr K.mg base N qual (bj st) f cdv A outer s H E).qr (df st) b):cL P K.w K.fr K.mg base fM (k+1) f fd ps (i7 K ps.length (az keep N.length ps.length b)):=by
 refine F.ok S (fun vs H Q E h=>h.1) (fun cdv A outer s H vs Q E hr h=>?_)
 obtain⟨hl,ι,g,ds,d,g',G0,r,h,p⟩:=h
 refine⟨_,(hb cdv A outer s H E hr).un,?_⟩
 unfold az at h
 have hds:ds.length=ps.length:=by rw [r.length];exact hl
 rw [if_pos hds] at h
 obtain⟨⟨r1,σ1,g1⟩,h1,h⟩:=bind_some h
 refine⟨ι,_,g,r1,σ1,g1,G0,qw r (by rw [hds];exact hN),by rw [hds];exact h1,fun H1 ι1 e1 G1=>?_⟩
 have fin:∀{dd v},Rel K H1 ι1 dd v->(if keep then some (dd,g1) else settle g.length dd g1)=some (d,g')->Q v H1:=fun {dd v} rv hh=>by
  cases keep with
  | true=>simp only [if_true] at hh;cases hh;exact p H1 ι1 v e1 G1 rv
  | false =>
   simp only [Bool.false_eq_true,if_false] at hh
   obtain⟨ι2,e2,G2,r2⟩:=tv G0 e1 G1 rv hh
   exact p H1 ι2 v e2 G2 r2
 cases r1 with
 | rt dd=>exact fun v rv=>fin rv h
 | nx=>exact fun σ' S'=>fin (v:=.non) (by simp [Rel]) h
 | bk=>cases h
 | ct=>cases h
end
section
variable {X:Cx}{x:Str}{p pos:Pos}{e:Expr}{es:List Expr}{fr:FA}{k:Nat}{f:Addr}{fd:FuncData}{ps:List Str}{fn:Fn}{n:Nat}
def aq (fn:Fn)(fr:FA):FE:=fun σ g=>(fr σ g).bind fun r=>fn r.1 r.2
theorem oH {K}{n:Nat}(hn:∀ds g r,fn ds g=some r->ds.length=n){σ:L2.St}{H:Hp}{Q:VK}(h:tD K (aq fn fr) σ H Q):sm (i7 K n fn) [] E0 (eU K fr) σ H Q:=by
 obtain⟨ι,σd,g,d,g',G0,S0,h,p⟩:=h
 obtain⟨⟨ds,g1⟩,h1,h⟩:=bind_some h
 refine eU.bind G0 S0 h1 fun H1 ι1 vs e1 G1 S1 r1=>?_
 rw [List.append_nil]
 exact⟨by rw [<- r1.length];exact hn _ _ _ h,ι1,g1,ds,d,g',G1,r1,h,p.mono e1⟩
theorem zu (F:cL X.prog X.w X.kw X.mg X.base fM k f fd ps (i7 X.kw n fn))(hr:aC k X.A)(hm:X.mg x=some (.ref f))(hk:PySem.W.keepIn X.kw (.ref f)=true)(hb:Binds X.kw fd ps [])(hn:∀ds g r,fn ds g=some r->ds.length=n)
  (ha:DA X (e::es) fr) (hg:Gl X x:=by rfl) (hdb:(x == ("__debug__":Str))=false:=by decide) (he:starEach (e::es) X.env=(false,eval e X.env)::starEach es X.env:=by rfl) (hpl:(backTo pos (starEach es X.env)).any (·.1)=false:=by rfl) :
  DE X (.Call (.Name x p) (e::es) [] pos) (aq fn fr):=.of (
 PE.imp (zc F hr hg hm hk hb .nil xP ha.un hdb he hpl) fun σ H Q h=>oH hn h)
theorem u6 (F:cL X.prog X.w X.kw X.mg X.base fM k f fd ps (i7 X.kw n fn))(hr:aC k X.A)(hm:X.mg x=some (.ref f))(hk:PySem.W.keepIn X.kw (.ref f)=true)(hb:Binds X.kw fd ps [])(hn:∀ds g r,fn ds g=some r->ds.length=n)
  (hg:Gl X x:=by rfl) (hdb:(x == ("__debug__":Str))=false:=by decide) :
  DE X (.Call (.Name x p) [] [] pos) (aq fn aj):=.of (
 PE.imp (vX F hr hg hm hk hb .nil xP hdb) fun σ H Q h=>by
  have q:=oH hn h
  obtain⟨ι,σd,g,d,g',G0,S0,h,p⟩:=q
  cases h
  exact p H ι [] Ext.refl G0 (by simp [ag]))
theorem mE {keep:Bool}{nN nP:Nat}{b:FS}:∀ds g r,az keep nN nP b ds g=some r->ds.length=nP:=fun ds g r h=>by
 unfold az at h
 split at h
 . assumption
 . cases h
theorem va {id:String}{o:Fn}(hc:ck X (.builtin id) (gD X.kw o))(hm:X.mg x=none)(hv:bootBuiltins x=some (.builtin id))(ha:DA X (e::es) fr)(hg:Gl X x:=by rfl)(hn:x ≠ "__name__":=by decide)(hdb:(x == ("__debug__":Str))=false:=by decide)
  (he:starEach (e::es) X.env=(false,eval e X.env)::starEach es X.env:=by rfl) (hpl:(backTo pos (starEach es X.env)).any (·.1)=false:=by rfl):DE X (.Call (.Name x p) (e::es) [] pos) (aq o fr):=.of (
 PE.imp (nt hc hg hm hv ha.un hn hdb he hpl) fun σ H Q h=>by
  obtain⟨ι,σd,g,d,g',G0,S0,h,p⟩:=h
  obtain⟨⟨ds,g1⟩,h1,h⟩:=bind_some h
  exact eU.bind G0 S0 h1 fun H1 ι1 vs e1 G1 S1 r1=>⟨ι1,g1,ds,d,g',G1,r1,h,p.mono e1⟩)
theorem tI {T:String}{o:Fn}(hc:ck X (.type T) (gD X.kw o))(hm:X.mg x=none)(hv:bootBuiltins x=some (.type T))(ha:DA X (e::es) fr)(hg:Gl X x:=by rfl)(hn:x ≠ "__name__":=by decide)(hdb:(x == ("__debug__":Str))=false:=by decide)
  (he:starEach (e::es) X.env=(false,eval e X.env)::starEach es X.env:=by rfl) (hpl:(backTo pos (starEach es X.env)).any (·.1)=false:=by rfl):DE X (.Call (.Name x p) (e::es) [] pos) (aq o fr):=.of (
 PE.imp (tS hc hg hm hv ha.un hn hdb he hpl) fun σ H Q h=>by
  obtain⟨ι,σd,g,d,g',G0,S0,h,p⟩:=h
  obtain⟨⟨ds,g1⟩,h1,h⟩:=bind_some h
  exact eU.bind G0 S0 h1 fun H1 ι1 vs e1 G1 S1 r1=>⟨ι1,g1,ds,d,g',G1,r1,h,p.mono e1⟩)
end
def gO (scope:Scope)(env:Env):List (Str×Addr):=(scope.names.filterMap fun x=>if x.2 == .free then(env.cells.lookup x.1).map fun c=>(x.1,c) else none).reverse
theorem fI {scope:Scope}{env:Env}(h:∀x∈scope.names,x.2 = .free->∃c,env.cells.lookup x.1=some c):closureFor scope env=pure (gO scope env):=by
 have key:∀(l:List (Str×NameKind)) (acc:List (Str×Addr)),(∀x∈l,x.2 = .free->∃c,env.cells.lookup x.1=some c) ->
   (forIn l acc fun x r=>if(x.2 == NameKind.free)=true then(do let c <- cellOf env x.1;pure (ForInStep.yield ((x.1,c)::r))) else pure (ForInStep.yield r):Sem (List (Str×Addr))) =
     pure ((l.filterMap fun x=>if x.2 == .free then(env.cells.lookup x.1).map fun c=>(x.1,c) else none).reverse++acc):=by
  intro l
  induction l with
  | nil=>intro acc _;rfl
  | cons x r ih =>
   intro acc hx
   rw [List.forIn_cons]
   by_cases hk:x.2 = .free
   . obtain⟨c,hc⟩:=hx x List.mem_cons_self hk
     have hb:(x.2 == NameKind.free)=true:=by rw [hk];rfl
     rw [if_pos hb]
     simp only [cellOf,hc,pure_bind,List.filterMap_cons,hb,if_true,Option.map_some,List.reverse_cons,List.append_assoc,List.singleton_append]
     exact ih _ fun y hy=>hx y (List.mem_cons_of_mem _ hy)
   . have hb:(x.2 == NameKind.free)=false:=by simpa using hk
     simp only [hb,Bool.false_eq_true,if_false,pure_bind,List.filterMap_cons]
     exact ih _ fun y hy=>hx y (List.mem_cons_of_mem _ hy)
 have:=key scope.names [] h
 rw [List.append_nil] at this
 unfold closureFor gO
 simp only [bind_pure_comp] at this ⊢
 first
  | (simpa using this)
  | exact this
def cellsOf (scope:Scope)(env:Env)(C:Addr):List (Str×Addr):=cellsFrom (C+1) scope.names (gO scope env)
theorem g_ {n:Nat}{y:Str}{k:NameKind}{r:List (Str×NameKind)}{acc:List (Str×Addr)}:cellsFrom n ((y,k)::r) acc=if(k == NameKind.cell)=true then cellsFrom (n+1) r ((y,n)::acc) else cellsFrom n r acc:=rfl
theorem gC {x:Str}{c:Addr}:∀{names:List (Str×NameKind)} {n:Nat} {acc:List (Str×Addr)},(cellsFrom n names acc).lookup x=some c->((x,NameKind.cell)∈names/\n<=c)\/(acc.lookup x=some c/\(x,NameKind.cell) ∉ names)
 | [],_,_,h=>.inr ⟨h,by simp⟩
 | (y,k)::r,n,acc,h=>by
  rw [g_] at h
  split at h
  . rename_i hk
    have hk:k=NameKind.cell:=by simpa using hk
    subst hk
    rcases gC h with⟨h1,h2⟩ | ⟨h1,h2⟩
    . exact .inl ⟨List.mem_cons_of_mem _ h1,by omega⟩
    . by_cases e:x=y
      . subst e
        rw [List.lookup_cons,show(x == x)=true by simp] at h1
        cases h1
        exact .inl ⟨List.mem_cons_self,Nat.le_refl _⟩
      . rw [List.lookup_cons,show(x == y)=false by simpa using e] at h1
        exact .inr ⟨h1,fun z=>by rcases List.mem_cons.mp z with z | z;(cases z;exact e rfl);exact h2 z⟩
  . rename_i hk
    rcases gC h with⟨h1,h2⟩ | ⟨h1,h2⟩
    . exact .inl ⟨List.mem_cons_of_mem _ h1,h2⟩
    . exact .inr ⟨h1,fun z=>by rcases List.mem_cons.mp z with z | z;(cases z;exact hk rfl);exact h2 z⟩
theorem km {x:Str}{c:Addr}:∀{names:List (Str×NameKind)} {n:Nat} {acc:List (Str×Addr)},(x,NameKind.cell) ∉ names->acc.lookup x=some c->(cellsFrom n names acc).lookup x=some c
 | [],_,_,_,h=>h
 | (y,k)::r,n,acc,hn,h=>by
  have hr:(x,NameKind.cell) ∉ r:=fun z=>hn (List.mem_cons_of_mem _ z)
  rw [g_]
  split
  . rename_i hk
    have hk:k=NameKind.cell:=by simpa using hk
    subst hk
    refine km hr ?_
    have e:x≠y:=fun e=>hn (by rw [e];exact List.mem_cons_self)
    rw [List.lookup_cons,show(x == y)=false by simpa using e]
    exact h
  . exact km hr h
theorem nj {x:Str}:∀{names:List (Str×NameKind)} {n:Nat} {acc:List (Str×Addr)},((x,NameKind.cell)∈names \/ ∃c,acc.lookup x=some c)->∃c,(cellsFrom n names acc).lookup x=some c
 | [],_,_,h=>by rcases h with h | h;(cases h);exact h
 | (y,k)::r,n,acc,h=>by
  rw [g_]
  split
  . rename_i hk
    refine nj ?_
    rcases h with h | ⟨c,h⟩
    . rcases List.mem_cons.mp h with z | z
      . cases z;exact .inr ⟨n,by simp⟩
      . exact .inl z
    . right
      rw [List.lookup_cons]
      split
      . exact⟨_,rfl⟩
      . exact⟨c,h⟩
  . rename_i hk
    refine nj ?_
    rcases h with h | h
    . rcases List.mem_cons.mp h with z | z
      . cases z;exact absurd rfl hk
      . exact .inl z
    . exact .inr h
theorem nC:∀{names:List (Str×NameKind)} {n:Nat} {acc:List (Str×Addr)},(∀x c,acc.lookup x=some c->c<n)->(∀x y c,acc.lookup x=some c->acc.lookup y=some c->x=y)->∀x y c,(cellsFrom n names acc).lookup x=some c->(cellsFrom n names acc).lookup y=some c->x=y
 | [],_,_,_,hi=>hi
 | (z,k)::r,n,acc,hl,hi=>by
  intro x y c
  rw [g_]
  split
  . refine nC (fun x c h=>?_) (fun x y c h1 h2=>?_) x y c
    . rw [List.lookup_cons] at h
      split at h
      . cases h;exact Nat.lt_succ_self _
      . exact Nat.lt_succ_of_lt (hl x c h)
    . rw [List.lookup_cons] at h1 h2
      split at h1
      . rename_i e1
        cases h1
        split at h2
        . rename_i e2
          rw [eq_of_beq e1,eq_of_beq e2]
        . exact absurd (hl y _ h2) (Nat.lt_irrefl _)
      . split at h2
        . cases h2;exact absurd (hl x _ h1) (Nat.lt_irrefl _)
        . exact hi x y c h1 h2
  . exact nC hl hi x y c
theorem j8 {M:Model}{A:Around}{E:Value->Shared->Prop}:∀(names:List (Str×NameKind)) (acc:List (Str×Addr)) (s:Shared) (Q:List (Str×Addr)->Shared->Prop),
  (∀x c,acc.lookup x=some c->c<s.heap.objs.size) ->
  (∀h',(∀b o,s.heap.get? b=some o->h'.get? b=some o)->(∀x c,(cellsFrom s.heap.objs.size names acc).lookup x=some c->s.heap.objs.size<=c->h'.IsCell c none)->Q (cellsFrom s.heap.objs.size names acc) { s with heap:=h' }) ->
  wpAny M A (forIn names acc fun x r=>if(x.2 == NameKind.cell)=true then(do let c <- alloc { cls:=Value.type "cell",data:=Data.cell none };pure (ForInStep.yield ((x.1,c)::r))) else pure (ForInStep.yield r)) Q E s
 | [],acc,s,Q,hl,h=>by
  rw [List.forIn_nil]
  exact wpAny_pure (h s.heap (fun _ _ e=>e) fun x c e1 e2=>absurd (hl x c e1) (Nat.not_lt.mpr e2))
 | (y,k)::r,acc,s,Q,hl,h=>by
  rw [List.forIn_cons]
  rw [g_] at h
  dsimp only
  split
  . rename_i hk
    rw [if_pos hk] at h
    refine wpAny_bind (wpAny_bind (wpAny_alloc (wpAny_pure ?_)))
    have sz:(s.heap.push { cls:=Value.type "cell",data:=Data.cell none }).objs.size=s.heap.objs.size+1:=Heap.size_push ..
    refine j8 r _ _ Q (fun x c e=>?_) fun h' k1 k2=>?_
    . show c<(s.heap.push _).objs.size
      rw [sz]
      rw [List.lookup_cons] at e
      split at e
      . cases e;exact Nat.lt_succ_self _
      . exact Nat.lt_succ_of_lt (hl x c e)
    . have k2:∀x c,(cellsFrom (s.heap.push { cls:=Value.type "cell",data:=Data.cell none }).objs.size r ((y,s.heap.objs.size)::acc)).lookup x=some c->(s.heap.push { cls:=Value.type "cell",data:=Data.cell none }).objs.size<=c->h'.IsCell c none:=k2
      show Q (cellsFrom (s.heap.push { cls:=Value.type "cell",data:=Data.cell none }).objs.size r ((y,s.heap.objs.size)::acc)) _
      rw [sz] at k2 ⊢
      refine h h' (fun b o e=>k1 b o (Heap.get?_push_of_some _ e)) fun x c e1 e2=>?_
      rcases Nat.lt_or_eq_of_le e2 with e3 | e3
      . exact k2 x c e1 e3
      . subst e3
        exact⟨_,k1 _ _ (Heap.get?_push_size _ rfl),rfl⟩
  . rename_i hk
    rw [if_neg hk] at h
    refine wpAny_bind (wpAny_pure ?_)
    exact j8 r acc s Q hl h
theorem gK {M:Model}{A:Around}{E:Value->Shared->Prop}{s:Shared}{scope:Scope}{env:Env}{gl:Addr}{cl:List (Str×Addr)}{qual:Str}{Q:Env->Shared->Prop}(hl:∀x c,cl.lookup x=some c->c<s.heap.objs.size)
   (h:∀h4:Heap,h4.Ns s.heap.objs.size (fun _=>none)->(∀b o,s.heap.get? b=some o->h4.get? b=some o)->(∀x c,(cellsFrom (s.heap.objs.size+1) scope.names cl).lookup x=some c->s.heap.objs.size+1<=c->h4.IsCell c none) ->
    Q (newEnv scope s.heap.objs.size gl (cellsFrom (s.heap.objs.size+1) scope.names cl) qual none Value.none (some env) builtinsNs) { s with heap:=h4 }) :
   wpAny M A (newFunctionEnv scope gl cl [] qual none Value.none (some env)) Q E s:=by
 unfold newFunctionEnv
 have sz:∀o:Obj,(s.heap.push o).objs.size=s.heap.objs.size+1:=fun o=>Heap.size_push ..
 refine wpAny_bind (wpAny_alloc (wpAny_bind ?_))
 refine j8 scope.names cl _ _ (fun x c e=>?_) fun h' k1 k2=>?_
 . show c<(s.heap.push _).objs.size
   rw [sz];exact Nat.lt_succ_of_lt (hl x c e)
 . refine wpAny_bind ?_
   rw [List.forIn_nil]
   refine wpAny_pure (wpAny_pure ?_)
   have k2:∀x c,(cellsFrom (s.heap.push { cls:=Value.type (if(some env).isSome=true then "dict" else "frame"),data:=Data.dict #[] }).objs.size scope.names cl).lookup x=some c->(s.heap.push { cls:=Value.type (if(some env).isSome=true then "dict" else "frame"),data:=Data.dict #[] }).objs.size<=c->h'.IsCell c none:=k2
   rw [sz] at k2
   have:=h h' ⟨_,_,_,k1 _ _ (Heap.get?_push_size _ rfl),rfl,by intro k hk;simp at hk,fun _=>rfl⟩ (fun b o e=>k1 b o (Heap.get?_push_of_some _ e)) k2
   show Q (newEnv scope s.heap.objs.size gl (cellsFrom (s.heap.push { cls:=Value.type (if(some env).isSome=true then "dict" else "frame"),data:=Data.dict #[] }).objs.size scope.names cl) qual none Value.none (some env) builtinsNs) { s with heap:=h' }
   rw [sz]
   exact this
def aV (X:Cx)(N:List Str)(scope:Scope)(C:Addr)(s3:Shared)(H:Hp)(fp:List Addr)(pins:List (Addr×Obj)):Cx where
 prog:=X.prog
 w:=X.w
 K:=X.kw
 mg:=X.mg
 base:=X.base
 A:=X.A
 N:=N
 s₀:=s3
 H₀:=H
 env:=compEnvC scope (cellsOf scope X.env C) C X.env
 outer:=X.stack
 stack:=X.stack
 ex:=fp
 calm:=X.calm
 fn:=fun x=>scope.names.any fun y=>y.1 == x&&y.2 == .cell
 pn:=X.pn++pins
 xe:=fun _ _=>False
structure du (X:Cx)(N:List Str)(fr:List (Option Nat))(scope:Scope):Prop where
 kind:scope.kind = .function
 cells:∀y∈scope.names,y.2 = .cell->scope.names.lookup y.1=some .cell
 names:∀y∈scope.names,y.2 = .local->scope.names.lookup y.1=some .local
 free:∀y∈scope.names,y.2 = .free->scope.names.lookup y.1=some .free/\(X.env.kindOf y.1=some .cell\/X.env.kindOf y.1=some .free)
 len:fr.length=N.length
 slots:∀(j i:Nat),fr[j]? = some (some i)->∃x,N[j]? = some x/\X.N[i]? = some x/\scope.names.lookup x=some .free
def bu {α:Type}(fr:List (Option Nat))(σ:List (Option α)):List (Option α):=fr.map fun o=>match o with | some i=>(σ[i]?).join | none=>none
theorem nJ {scope:Scope}{env:Env}:(relabel scope env).kind=scope.kind:=rfl
theorem vp {scope:Scope}{env:Env}{x:Str}{c:Addr}(h:(x,c)∈gO scope env):(x,NameKind.free)∈scope.names/\env.cells.lookup x=some c:=by
 unfold gO at h
 rw [List.mem_reverse,List.mem_filterMap] at h
 obtain⟨y,hy,e⟩:=h
 split at e
 . rename_i hk
   cases hc:env.cells.lookup y.1 with
   | none=>rw [hc] at e;cases e
   | some c' =>
    rw [hc] at e
    cases e
    have:y.2=NameKind.free:=by simpa using hk
    exact⟨by rw [<- this];exact hy,hc⟩
 . cases e
theorem iJ {α:Type}:∀{l:List (Str×α)} {x:Str} {c:α},(x,c)∈l->∃d,l.lookup x=some d
 | [],_,_,h=>nomatch h
 | (y,d)::r,x,c,h=>by
  by_cases e:x=y
  . subst e;exact⟨d,by simp⟩
  . rcases List.mem_cons.mp h with z | z
    . cases z;exact absurd rfl e
    . obtain⟨d',q⟩:=iJ z
      exact⟨d',by rw [List.lookup_cons];simp [show(x == y)=false by simpa using e,q]⟩
theorem dg {scope:Scope}{env:Env}{x:Str}{c:Addr}(h:(gO scope env).lookup x=some c):(x,NameKind.free)∈scope.names/\env.cells.lookup x=some c:=vp (PySem.mem_of_lookup h)
theorem nB {scope:Scope}{env:Env}{x:Str}{c:Addr}(hx:(x,NameKind.free)∈scope.names)(hc:env.cells.lookup x=some c):(gO scope env).lookup x=some c:=by
 have m:(x,c)∈gO scope env:=by
  unfold gO
  rw [List.mem_reverse,List.mem_filterMap]
  exact⟨_,hx,by simp [hc]⟩
 obtain⟨d,q⟩:=iJ m
 have:=(dg q).2
 rw [hc] at this;cases this
 exact q
theorem oS {scope:Scope}{env:Env}{x:Str}(h:(relabel scope env).names.lookup x=some .cell\/(relabel scope env).names.lookup x=some .free):(x,NameKind.free)∈scope.names\/(x,NameKind.cell)∈scope.names:=by
 have m:∃k,(x,k)∈(relabel scope env).names/\(k = .cell\/k = .free):=by
   rcases h with h | h
   . exact⟨_,PySem.mem_of_lookup h,.inl rfl⟩
   . exact⟨_,PySem.mem_of_lookup h,.inr rfl⟩
 obtain⟨k,m,hk⟩:=m
 unfold relabel at m
 rw [List.mem_map] at m
 obtain⟨⟨n,k'⟩,hm,e⟩:=m
 dsimp only at e
 split at e
 . rename_i z
   cases e
   simp only [Bool.and_eq_true] at z
   have:k'=NameKind.free:=by simpa using z.1.1
   subst this
   exact .inl hm
 . cases e
   rcases hk with rfl | rfl
   . exact .inr hm
   . exact .inl hm
theorem eS {env:Env}:∀{names:List (Str×NameKind)} {x:Str},names.lookup x=some .free ->
  (names.map fun(n,k)=>if(k == NameKind.free&&env.scope.kind == .function&&env.kindOf n == some .cell) then(n,NameKind.cell) else(n,k)).lookup x=some .cell \/
  (names.map fun(n,k)=>if(k == NameKind.free&&env.scope.kind == .function&&env.kindOf n == some .cell) then(n,NameKind.cell) else(n,k)).lookup x=some .free
 | [],_,h=>by simp at h
 | (n,k)::r,x,h=>by
  have ih:=@eS env r x
  show List.lookup x ((if(k == NameKind.free&&env.scope.kind == .function&&env.kindOf n == some .cell)=true then(n,NameKind.cell) else(n,k))::_)=_\/List.lookup x ((if(k == NameKind.free&&env.scope.kind == .function&&env.kindOf n == some .cell)=true then(n,NameKind.cell) else(n,k))::_)=_
  cases hx:x == n with
  | true =>
   simp only [List.lookup_cons,hx] at h
   cases h
   split
   . left;simp [List.lookup_cons,hx]
   . right;simp [List.lookup_cons,hx]
  | false =>
   simp only [List.lookup_cons,hx] at h
   split
   . simp only [List.lookup_cons,hx];exact ih h
   . simp only [List.lookup_cons,hx];exact ih h
section
variable {X:Cx}{pins:List (Addr×Obj)}{σ:L2.St}{H:Hp}{s3:Shared}
theorem rP {scope:Scope}(I:Inv X pins σ H s3):∀x c,(gO scope X.env).lookup x=some c->c<s3.heap.objs.size:=fun x c e=>by
 obtain⟨v,o,eo,_⟩:=I.cell x c (dg e).2
 exact Heap.lt_size eo
theorem il {N:List Str}{fr:List (Option Nat)}{scope:Scope}{fp:List Addr}{h1:Heap}{tk:Nat}(ok:du X N fr scope)(I:Inv X pins σ H s3)(hf:∀b∈fp,cE X pins H b)(hfl:∀b∈fp,b<s3.heap.objs.size)
   (hns:h1.Ns s3.heap.objs.size fun _=>none) (hk:∀b o,s3.heap.get? b=some o->h1.get? b=some o) (hcl:∀x c,(cellsOf scope X.env s3.heap.objs.size).lookup x=some c->s3.heap.objs.size+1<=c->h1.IsCell c none) :
   Inv (aV X N scope s3.heap.objs.size s3 H fp pins) [] (bu fr σ) H { s3 with heap:=h1,toks:=tk }:=by
 have I1:Inv X pins σ H { s3 with heap:=h1,toks:=tk }:=I.kept hk
 have stk:∀b∈iO X.stack,b∈X.env.locals::X.fs:=I.oA
 have lc:∀x c,(cellsOf scope X.env s3.heap.objs.size).lookup x=some c->(s3.heap.objs.size+1<=c/\h1.IsCell c none)\/X.env.cells.lookup x=some c:=fun x c e=>by
   rcases gC e with⟨_,z⟩ | ⟨z,_⟩
   . exact .inl ⟨z,hcl x c e z⟩
   . exact .inr (dg z).2
 have lo:∀x c,X.env.cells.lookup x=some c->c<s3.heap.objs.size:=fun x c e=>by
   obtain⟨v,o,eo,_⟩:=I.cell x c e
   exact Heap.lt_size eo
 have fro:∀y,(y,NameKind.free)∈scope.names->(y,NameKind.cell) ∉ scope.names:=fun y h1 h2=>by
   have:=(ok.free _ h1 rfl).1
   rw [show scope.names.lookup y=some .cell from ok.cells _ h2 rfl] at this
   cases this
 refine⟨⟨I.ok.mod,?_,I.ok.glob,I.ok.blt,Nat.le_refl _,?_,?_,?_,I.ok.hd,I.ok.frames,.inl rfl,?_,I.bs,Nat.le_trans I.ok.bsz I.sz,?_,?_,I.stack,I.pC⟩,rfl,I.bare,Un.kept hk,
   ⟨_,hns,?_⟩,?_,I.hok.fresh (Nat.le_refl _),?_,?_,I1.hok,?_⟩
 . show(relabel scope X.env).kind = .function
   rw [nJ];exact ok.kind
 . refine nC (fun x c e=>Nat.lt_succ_of_lt (lo x c (dg e).2)) fun x y c h1 h2=>?_
   exact I.ok.inj x y c (dg h1).2 (dg h2).2
 . intro x hx
   rcases oS (scope:=scope) (env:=X.env) hx with m | m
   . obtain⟨c,hc⟩:=I.ok.has x (ok.free _ m rfl).2
     exact⟨c,km (fro x m) (nB m hc)⟩
   . exact nj (.inl m)
 . intro x c hx e
   rcases gC e with⟨_,z⟩ | ⟨_,z⟩
   . exact Nat.le_of_succ_le z
   . refine absurd ?_ z
     have hx:(scope.names.any fun y=>y.1 == x&&y.2 == .cell)=true:=hx
     rw [List.any_eq_true] at hx
     obtain⟨⟨y,k⟩,hy,e2⟩:=hx
     simp only [Bool.and_eq_true] at e2
     have e3:k=NameKind.cell:=by simpa using e2.2
     rw [<- eq_of_beq e2.1,<- e3]
     exact hy
 . intro b hb
   refine⟨Nat.ne_of_lt (hfl b hb),fun x c e=>?_⟩
   rcases lc x c e with⟨z,_⟩ | z
   . exact fun q=>absurd (hfl b hb) (Nat.not_lt.mpr (by rw [<- q];exact Nat.le_of_succ_le z))
   . exact(hf b hb).2.2.2.2.1 x c z
 . intro b o e hb
   obtain⟨_,_,_,z,_⟩:=hf b hb
   rcases z with z | z
   . exact I.ok.noex b o e z
   . exact absurd (Nat.lt_of_lt_of_le (Nat.lt_of_lt_of_le (Heap.lt_size e) I.ok.bsz) z) (Nat.lt_irrefl _)
 . intro b hb z
   obtain⟨_,n1,n2,_⟩:=hf b hb
   rcases List.mem_cons.mp (stk b z) with q | q
   . exact n1 q
   . exact n2 q
 . intro j x v h1 h2 h3
   have h2':(bu fr σ)[j]? = some (some v):=h2
   unfold bu at h2'
   rw [List.getElem?_map] at h2'
   cases hfr:fr[j]? with
   | none=>rw [hfr] at h2';cases h2'
   | some o =>
     rw [hfr] at h2'
     cases o with
     | none=>cases h2'
     | some i =>
       obtain⟨y,hy,hi,hfree⟩:=ok.slots j i hfr
       have e:x=y:=by
         have h1':N[j]? = some x:=h1
         rw [hy] at h1';cases h1';rfl
       subst e
       have hσ:σ[i]? = some (some v):=by
         simp only [Option.map_some,Option.some.injEq] at h2'
         cases q:σ[i]? with
         | none=>rw [q] at h2';cases h2'
         | some w=>rw [q] at h2';simp at h2';rw [h2']
       have m:=PySem.mem_of_lookup hfree
       obtain⟨_,hkind⟩:=ok.free _ m rfl
       obtain⟨mm,hn,hl⟩:=I1.loc
       obtain⟨u,ru,lk⟩:=hl i x v hi hσ (by rcases hkind with k | k;exact .inr (.inl k);exact .inr (.inr k))
       refine⟨u,ru,.inr ⟨eS hfree,?_⟩⟩
       rcases lk with⟨kl,_⟩ | ⟨_,c,hc,hcell⟩
       . rcases hkind with k | k<;>(rw [k] at kl;cases kl)
       . exact⟨c,km (fro x m) (nB m hc),hcell⟩
 . intro x c e
   rcases lc x c e with⟨_,z⟩ | z
   . exact⟨_,z⟩
   . exact I1.cell x c z
 . intro x c e
   rcases lc x c e with⟨z,_⟩ | z
   . exact I.hok.fresh (Nat.le_of_succ_le z)
   . exact I.freeC x c z
 . intro p hp
   have hp':p∈X.pn++pins:=by
     have q:p∈(X.pn++pins) ++ []:=hp
     simpa using q
   obtain⟨e,n,ne,nf,d⟩:=I1.pin p hp'
   refine⟨e,n,Nat.ne_of_lt ?_,fun z=>?_,d⟩
   . exact Heap.lt_size (I.pin p hp').1
   . rcases List.mem_cons.mp (stk _ z) with q | q
     . exact ne q
     . exact nf q
 . show(bu fr σ).length=N.length
   unfold bu;rw [List.length_map];exact ok.len
end
def bZ (t:FG)(c:FT)(e:FE):List D->Sg->G->Option (List D×G)
 | [],_,g=>some ([],g)
 | d::ds,σ,g=>(t d σ g).bind fun q=>(c q.1 q.2).bind fun k=>if k.1=true then(e q.1 k.2).bind fun r=>(bZ t c e ds q.1 r.2).bind fun z=>some (r.1::z.1,z.2) else bZ t c e ds q.1 k.2
def HE (X:Cx)(ifs:List Expr)(t:TT):Prop :=
 ∀(pins:List (Addr×Obj)) (s:Shared) (σ:L2.St) (H:Hp) (Q:Bool->Hp->Prop),Inv X pins σ H s->t σ H Q ->
  wpAny (model X.prog X.w) X.A (forIn ifs true fun c r=>if r=true then do let ok <- isTrue c X.env (eval c X.env);pure (ForInStep.yield ok) else pure (ForInStep.yield r)) (TP X pins σ Q) X.xe s
structure dZ (X:Cx)(ifs:List Expr)(f:FT):Prop where of ::
 un:HE X ifs (ia X.kw f)
def bq:FT:=fun _ g=>some (true,g)
theorem wg {X:Cx}:dZ X [] bq:=.of (fun pins s σ H Q I h=>by
 obtain⟨ι,σd,g,b,g',G0,S0,h,p⟩:=h
 cases h
 exact wpAny_tests_nil ⟨H,I,p H ι Ext.refl G0⟩)
theorem vt {X:Cx}{c:Expr}{f:FT}(h:DT X c f):dZ X [c] f:=.of (fun pins s σ H Q I q=>wpAny_tests_one (h.un pins s σ H Q I q))
theorem Ext.jv {H1 ι1 H' ιo p H'' ι''}(a:Ext H1 ι1 H' ιo)(b:Ext H' (Ix.hide ιo p) H'' ι''):Ext H1 ι1 H'' ⟨ι''.ix,ιo.hd,ι''.kd⟩/\ι''=Ix.hide ⟨ι''.ix,ιo.hd,ι''.kd⟩ p:=by
 have hh:ι''.hd=p::ιo.hd:=b.hid
 obtain⟨m1,e1,f1⟩:=a.more
 obtain⟨m2,e2,f2⟩:=b.more
 refine⟨⟨fun c o h n=>b.same c o (a.same c o h n) (a.old h n),fun c h=>b.there c (a.there c h),⟨m1++m2,?_,fun c z=>?_⟩,a.hid,fun i hi=>(b.kds i (show i < ιo.ix.length by rw [e1,List.length_append];omega)).trans (a.kds i hi)⟩,?_⟩
 . show ι''.ix=_
   rw [e2];show ιo.ix++m2=_
   rw [e1,List.append_assoc]
 . rcases List.mem_append.mp z with z | z
   . exact f1 c z
   . cases q:H1 c with
     | none=>rfl
     | some o=>exact absurd (f2 c z) (a.there c (by rw [q];simp))
 . cases ι'' with
   | mk ix hd kd=>dsimp only at hh;rw [hh];rfl
theorem Ext.jr {H1 ι1 H' ιo p o}(a:Ext H1 ι1 H' ιo)(hp:H1 p=none):Ext H1 ι1 (upd H' p o) ιo :=
 ⟨fun c u h n=>by rw [aJ (bG h hp)];exact a.same c u h n,fun c h=>by
  by_cases e:c=p
  . subst e;rw [aR];simp
  . rw [aJ e];exact a.there c h,a.more,a.hid,a.kds⟩
theorem Ext.vS {H1 ι1 H' ιo p}(a:Ext H1 ι1 H' ιo)(hp:H1 p=none):fz H1 ι1 H' (Ix.hide ιo p) :=
 ⟨a.same,a.there,a.more,⟨[p],by show p::ιo.hd=_;rw [a.hid];rfl,fun b z=>by simp at z;subst z;exact hp⟩,a.kds⟩
inductive CompI (X':Cx)(t:FG)(c:FT)(e:FE)(fp:List Addr)(Dl:Addr)(tn:Nat->Heap->Prop)(ds all:List D)(H1:Hp)(ι1:Ix)(g':G)(n:Nat)(s:Shared):Prop
 | mk (i:Nat) (σ:L2.St) (H:Hp) (ιo:Ix) (σd:Sg) (g:G) (vs:List V) (acc more:List D) (hn:n=ds.length+1-i) (hil:i<=ds.length) (I:Inv X' [] σ H s) (ti:tn i s.heap) (fri:∀b∈fp,H b=none) (E1:Ext H1 ι1 H ιo) (G1:au X'.kw H (Ix.hide ιo Dl) g) (S1:aS X'.kw H (Ix.hide ιo Dl) σd σ)
  (hHD:H Dl=some (.lst vs)) (racc:ag X'.kw H (Ix.hide ιo Dl) acc vs) (hal:acc.length<=i) (hf:bZ t c e (ds.drop i) σd g=some (more,g')) (ea:all=acc++more):CompI X' t c e fp Dl tn ds all H1 ι1 g' n s
theorem uE {X':Cx}{tg iter elt:Expr}{ifs:List Expr}{scope:Scope}{pos:Pos}{t:FG}{c:FT}{e:FE}{J:It}{fp:List Addr}{it Dl:Addr}{tn:Nat->Heap->Prop}{ds all:List D}{H1:Hp}{ι1:Ix}{g':G}{R:Result->Shared->Prop}
   (hxe:X'.xe=fun _ _=>False) (hc:X'.calm=true) (T:Turn X'.prog X'.w X'.kw tg J fp it tn) (hfp:∀b∈fp,cE X' [] X'.H₀ b) (J1:et X'.kw J H1 ι1 ds) (hD:H1 Dl=none) (hz:ds.length<=sizeLine)
   (hg:DG X' tg t) (hi:dZ X' ifs c) (he:DE X' elt e)
   (fin:∀s' σ' H' ιo vs,Inv X' [] σ' H' s'->(∀b∈fp,H' b=none)->Ext H1 ι1 H' ιo->au X'.kw H' (Ix.hide ιo Dl) g'->H' Dl=some (.lst vs)->ag X'.kw H' (Ix.hide ιo Dl) all vs->R (.ok .next) s') :
   ∀(s:Shared) (σ:L2.St) (H:Hp) (ιo:Ix) (σd:Sg) (g:G),Inv X' [] σ H s->tn 0 s.heap->(∀b∈fp,H b=none)->Ext H1 ι1 H ιo->au X'.kw H (Ix.hide ιo Dl) g->aS X'.kw H (Ix.hide ιo Dl) σd σ->H Dl=some (.lst [])->bZ t c e ds σd g=some (all,g') ->
    codeAny (model X'.prog X'.w) X'.A (.compLoop (.ListComp elt [⟨tg,iter,ifs,0⟩] scope pos) 0 (.ref it) (.ref Dl) X'.env) R s:=by
 intro s σ H ιo σd g I t0 fr0 E0 G0 S0 hH hf0
 have stat:∀{H':Hp},(∀b∈fp,H' b=none)->∀b∈fp,cE X' [] H' b:=fun hn b hb=>⟨hn b hb,(hfp b hb).2⟩
 refine codeAny_loop rfl (CompI X' t c e fp Dl tn ds all H1 ι1 g') ?_ (ds.length+1)
   ⟨0,σ,H,ιo,σd,g,[],[],all,rfl,Nat.zero_le _,I,t0,fr0,E0,G0,S0,hH,by simp [ag],Nat.le_refl _,by simpa using hf0,rfl⟩
 clear hf0 hH S0 G0 E0 fr0 t0 I g σd ιo H σ s
 rintro n s ⟨i,σ,H,ιo,σd,g,vs,acc,more,rfl,hil,I,ti,fri,E1,G1,S1,hHD,racc,hal,hf,rfl⟩
 show wpAny _ X'.A ((compTurn (.ListComp elt [⟨tg,iter,ifs,0⟩] scope pos) 0 (.ref it) (.ref Dl) X'.env).onRaise (fun x=>do noteFrame x X'.env;theTreesLotGoes x)) _ _ s
 refine wpAny_noted ?_
 rw [compTurn_list]
 refine wpAny_bind (wpAny_standAt (wpAny_bind ?_))
 obtain⟨st,go⟩:=J1 i H (Ix.hide ιo Dl) g (E1.vS hD) G1
 by_cases hlt:i<ds.length
 . obtain⟨go,yl⟩:=go ds[i] (List.getElem?_eq_getElem hlt)
   refine aI (T.item X' rfl rfl rfl hc i [] s σ H _ I (stat fri) ti go) fun r s4 ⟨u,hr,h4⟩=>?_
   subst hr
   refine wpAny_bind (aI h4 fun _ s5 ⟨x,H5,I5,r5,y5,t5,fr5⟩=>?_)
   obtain⟨e5,G5,rd5⟩:=yl x H5 y5
   rw [List.drop_eq_getElem_cons hlt] at hf
   simp only [bZ] at hf
   obtain⟨⟨σ6,g6⟩,h6,hf⟩:=bind_some hf
   obtain⟨⟨k7,g7⟩,h7,hf⟩:=bind_some hf
   have I5':=I5.pinned (stat fr5) (T.obj _ _ t5)
   have lift:∀{α:Type} {tr:Sem α} {Q:α->Shared->Prop} {E:Value->Shared->Prop} {s:Shared},wpAny (model X'.prog X'.w) X'.A tr Q X'.xe s->wpAny (model X'.prog X'.w) X'.A tr Q E s:=fun h=>wpAny_mono h (fun _ _ q=>q) fun _ _ z=>by rw [hxe] at z;exact z.elim
   have again:∀{s9:Shared} {σ9:L2.St} {H9:Hp} {ι9:Ix} {σd9:Sg} {g9:G} {vs9:List V} {acc9:List D} {more9:List D},Inv X' ([]++gr fp s5.heap) σ9 H9 s9->Ext H1 ι1 H9 ι9->au X'.kw H9 (Ix.hide ι9 Dl) g9->aS X'.kw H9 (Ix.hide ι9 Dl) σd9 σ9 ->
     H9 Dl=some (.lst vs9)->ag X'.kw H9 (Ix.hide ι9 Dl) acc9 vs9->acc9.length<=i+1->bZ t c e (ds.drop (i+1)) σd9 g9=some (more9,g')->acc++more=acc9++more9 ->
     ∃m,m<ds.length+1-i/\CompI X' t c e fp Dl tn ds (acc++more) H1 ι1 g' m s9:=by
    intro s9 σ9 H9 ι9 σd9 g9 vs9 acc9 more9 I9 E9 G9 S9 h9 r9 l9 f9 a9
    refine⟨ds.length+1-(i+1),by omega,i+1,σ9,H9,ι9,σd9,g9,vs9,acc9,more9,rfl,hlt,I9.eZ,T.keep _ _ _ t5 fun b hb o e=>(I9.pin (b,o) (List.mem_append_right _ (List.mem_append_right _ (cO hb e)))).1,fun b hb=>?_,E9,G9,S9,h9,r9,l9,f9,a9⟩
    obtain⟨o,e,d⟩:=T.obj _ _ t5 b hb
    exact(I9.pin (b,o) (List.mem_append_right _ (List.mem_append_right _ (cO hb e)))).2.1
   refine wpAny_bind (lift (aI (hg.un _ s5 σ H5 x u (fun σ' H'=>∃ι6,Ext H5 (Ix.hide ιo Dl) H' ι6/\au X'.kw H' ι6 g6/\aS X'.kw H' ι6 σ6 σ') I5' r5 ⟨Ix.hide ιo Dl,σd,g,ds[i],σ6,g6,G5,S1.ext e5,rd5,h6,fun H6 ι6 σ6' e6 G6 S6=>⟨ι6,e6,G6,S6⟩⟩) fun _ s6 q6=>?_))
   obtain⟨σ6',H6,I6,ι6,e6,G6,S6⟩:=q6
   refine wpAny_bind (lift (aI (hi.un _ s6 σ6' H6 (fun b H'=>b=k7 /\ ∃ι7,Ext H6 ι6 H' ι7/\au X'.kw H' ι7 g7) I6 ⟨ι6,σ6,g6,k7,g7,G6,S6,h7,fun H7 ι7 e7 G7=>⟨rfl,ι7,e7,G7⟩⟩) fun ok s7 q7=>?_))
   obtain⟨H7,I7,rfl,ι7,e7,G7⟩:=q7
   have e57:=(e5.trans e6).trans e7
   obtain⟨E7,ei7⟩:=E1.jv e57
   have hD7:H7 Dl=some (.lst vs):=e57.same Dl _ hHD (G1.hid Dl List.mem_cons_self).1
   have r7:=ag.ext e57 _ racc
   have S7:=S6.ext e7
   cases ok with
   | false =>
    simp only [Bool.false_eq_true,if_false] at hf
    refine wpAny_pure ⟨rfl,?_⟩
    rw [ei7] at G7 S7 r7
    exact again I7 E7 G7 S7 hD7 r7 (by omega) hf rfl
   | true =>
    simp only [if_true] at hf
    obtain⟨⟨d8,g8⟩,h8,hf⟩:=bind_some hf
    obtain⟨⟨more9,g9⟩,h9,hf⟩:=bind_some hf
    obtain⟨rfl,rfl⟩:d8::more9=more/\g9=g':=by cases hf;exact⟨rfl,rfl⟩
    refine wpAny_bind (wpAny_bind (lift (aI (he.un _ s7 σ6' H7 (fun v H'=>∃ι8,Ext H7 ι7 H' ι8/\au X'.kw H' ι8 g8/\Rel X'.kw H' ι8 d8 v) I7 ⟨ι7,σ6,g7,d8,g8,G7,S7,h8,fun H8 ι8 v e8 G8 r8=>⟨ι8,e8,G8,r8⟩⟩) fun y s8 q8=>?_)))
    obtain⟨v8,H8,I8,rv8,ι8,e8,G8,r8⟩:=q8
    have e58:=e57.trans e8
    obtain⟨E8,ei8⟩:=E1.jv e58
    have hD8:H8 Dl=some (.lst vs):=e58.same Dl _ hHD (G1.hid Dl List.mem_cons_self).1
    have racc8:=ag.ext e58 _ racc
    have S8:=S7.ext e8
    have hlen:vs.length<sizeLine:=by rw [<- racc.length];omega
    rw [ei8] at G8 S8 racc8 r8
    refine wpAny_bind (lift (aI (gE (X:=X') _ s8 σ6' H8 (.ref Dl) [v8] (.ref Dl) [y] (fun _ H'=>H'=upd H8 Dl (.lst (vs ++ [v8]))) I8 rfl (.cons rv8 .nil) ⟨Dl,vs,v8,rfl,rfl,hD8,hlen,rfl⟩) fun _ s9 q9=>?_))
    obtain⟨_,H9,I9,_,rfl⟩:=q9
    refine wpAny_pure (wpAny_pure ⟨rfl,?_⟩)
    refine again (acc9:=acc ++ [d8]) I9 (E8.jr hD) (G8.grow hD8) ⟨S8.1,fun j d q=>let⟨v,a,b⟩:=S8.2 j d q;⟨v,a,Rel.grow hD8 d b⟩⟩ aR ?_ (by simp;omega) h9 (by simp)
    exact ag.append (ag.grow hD8 _ racc8) (by simp only [ag];exact⟨v8,[],rfl,Rel.grow hD8 _ r8,rfl⟩)
 . have ei:i=ds.length:=by omega
   subst ei
   simp only [List.drop_length,bZ] at hf
   cases hf
   refine aI (T.done X' rfl rfl rfl hc _ [] s σ H _ I (stat fri) ti (st (Nat.le_refl _))) fun r s4 ⟨hr,I4⟩=>?_
   subst hr
   exact wpAny_pure (fin s4 σ H ιo vs I4 fri E1 G1 hHD (by simpa using racc))
def bA (mk:List D->G->Option (D×G))(fi:FI)(fr:List (Option Nat))(t:FG)(c:FT)(e:FE):FE:=fun σ g=>(fi σ g).bind fun r=>if aD r.1.length=true then(bZ t c e r.1 (bu fr σ) r.2).bind fun q=>mk q.1 q.2 else none
def bB (ds:List D)(g:G):Option (D×G):=some (.lst ds,g)
theorem aS.sub {K H ι σd σ}(fr:List (Option Nat))(h:aS K H ι σd σ):aS K H ι (bu fr σd) (bu fr σ):=by
 refine⟨by simp [bu],fun j d q=>?_⟩
 unfold bu at q ⊢
 rw [List.getElem?_map] at q ⊢
 cases hf:fr[j]? with
 | none=>rw [hf] at q;cases q
 | some o =>
  rw [hf] at q
  cases o with
  | none=>cases q
  | some i =>
   have hσ:σd[i]? = some (some d):=by
    simp only [Option.map_some,Option.some.injEq] at q
    cases z:σd[i]? with
    | none=>rw [z] at q;cases q
    | some w=>rw [z] at q;simp at q;rw [q]
   obtain⟨v,hv,rv⟩:=h.2 i d hσ
   exact⟨v,by simp [hv],rv⟩
section
variable {X:Cx}{tg iter elt:Expr}{ifs:List Expr}{scope:Scope}{pos cpos:Pos}{N:List Str}{fr:List (Option Nat)}{fi:FI}{t:FG}{c:FT}{e:FE}
theorem mf {pins:List (Addr×Obj)}{s:Shared}{σ:L2.St}{H:Hp}{ι:Ix}{σd:Sg}{g g1 g':G}{ds all:List D}{use:Option (Value->Sem Unit)}{Q:Value->Shared->Prop}
  (hxe:X.xe=fun _ _=>False) (hc:X.calm=true) (ok:du X N fr scope) (hit:DI X tg iter fi) (hin:∀C s3 H fp pins,DG (aV X N scope C s3 H fp pins) tg t/\dZ (aV X N scope C s3 H fp pins) ifs c/\DE (aV X N scope C s3 H fp pins) elt e)
  (hs:∀x,foldedSetIterable iter X.env x=pure x) (I:Inv X pins σ H s) (G0:au X.kw H ι g) (S0:aS X.kw H ι σd σ) (h1:fi σd g=some (ds,g1)) (hz:aD ds.length=true) (h2:bZ t c e ds (bu fr σd) g1=some (all,g'))
  (fin:∀s' H' ιo vs Dl C,Inv X pins σ H' s'->cE X pins H' C->(∃m,s'.heap.Ns C m)->Ext H ι H' ιo->au X.kw H' (Ix.hide ιo Dl) g'->H' Dl=some (.lst vs)->ag X.kw H' (Ix.hide ιo Dl) all vs->Dl ∉ ιo.hd->H Dl=none->compPost (model X.prog X.w) X.A X.xe use Q (.ref Dl) C (.ok .next) s') :
  wpAny (model X.prog X.w) X.A (comprehension (.ListComp elt [⟨tg,iter,ifs,0⟩] scope pos) scope X.env cpos (newList []) false (eval iter X.env) use) Q X.xe s:=by
 have free:∀x∈scope.names,x.2 = .free->∃c,X.env.cells.lookup x.1=some c:=fun x hx hk=>I.ok.has x.1 (ok.free x hx hk).2
 refine wpAny_comprehension_free (use:=use) rfl hs (fI free) ok.kind ok.names (aI (hit.un pins s σ H (fun J H'=>∃ι1,Ext H ι H' ι1/\au X.kw H' ι1 g1/\et X.kw J H' ι1 ds) I ⟨ι,σd,g,ds,g1,G0,S0,h1,fun H1 ι1 J e1 G1 J1=>⟨ι1,e1,G1,J1⟩⟩) fun xv s1 h1'=>aI h1' fun itv s2 q2=>?_)
 obtain⟨it,fp,tn,J,H1,rfl,I1,T,t1,f1,ι1,e1,G1,J1⟩:=q2
 refine wpAny_newObj_type ?_
 have hDn:H1 s2.heap.objs.size=none:=I1.hok.fresh (Nat.le_refl _)
 generalize hs3:({ s2 with heap:=s2.heap.push { cls:=.type "list",dict:=none,data:=.seq ([]:List Value).toArray } }:Shared)=s3
 have I3:Inv X pins σ (upd H1 s2.heap.objs.size (.lst [])) s3:=by
  rw [<- hs3]
  exact I1.laid (t':=s2.toks) (fun b u e=>Heap.get?_push_of_some _ e) (Nat.le_refl _) ⟨Nat.zero_le _,[],0,.nil,Heap.get?_push_size _ rfl⟩
 have k3:∀b o,s2.heap.get? b=some o->s3.heap.get? b=some o:=fun b o e=>by rw [<- hs3];exact Heap.get?_push_of_some _ e
 have sz3:s3.heap.objs.size=s2.heap.objs.size+1:=by rw [<- hs3];exact Heap.size_push ..
 have hfl:∀b∈fp,b<s2.heap.objs.size:=fun b hb=>let⟨o,eo,_⟩:=T.obj _ _ t1 b hb;Heap.lt_size eo
 have f3:∀b∈fp,cE X pins (upd H1 s2.heap.objs.size (.lst [])) b:=fun b hb=>⟨by rw [aJ (Nat.ne_of_lt (hfl b hb))];exact(f1 b hb).1,(f1 b hb).2⟩
 refine gK (rP I3) fun h4 hns' k4 kc=>?_
 have I4:=il (tk:=s3.toks) ok I3 f3 (fun b hb=>by rw [sz3];exact Nat.lt_succ_of_lt (hfl b hb)) hns' k4 kc
 obtain⟨hg,hi,he⟩:=hin s3.heap.objs.size s3 (upd H1 s2.heap.objs.size (.lst [])) fp pins
 have t4:tn 0 h4:=T.keep _ _ _ t1 fun b hb o e=>k4 b o (k3 b o e)
 have fx:∀b∈fp,cE (aV X N scope s3.heap.objs.size s3 (upd H1 s2.heap.objs.size (.lst [])) fp pins) [] (upd H1 s2.heap.objs.size (.lst [])) b:=fun b hb=>by
  refine⟨(f3 b hb).1,?_,?_,.inl hb,?_,?_⟩
  . exact Nat.ne_of_lt (by rw [sz3];exact Nat.lt_succ_of_lt (hfl b hb))
  . exact I4.ok.exfs b hb
  . exact(I4.ok.exf b hb).2
  . intro p hp
    have hp':p∈X.pn++pins:=by
      have q:p∈(X.pn++pins) ++ []:=hp
      simpa using q
    exact(f1 b hb).2.2.2.2.2 p hp'
 have loop:codeAny (model X.prog X.w) X.A (.compLoop (.ListComp elt [⟨tg,iter,ifs,0⟩] scope pos) 0 (.ref it) (.ref s2.heap.objs.size) (compEnvC scope (cellsOf scope X.env s3.heap.objs.size) s3.heap.objs.size X.env))
    (compPost (model X.prog X.w) X.A X.xe use Q (.ref s2.heap.objs.size) s3.heap.objs.size) { s3 with heap:=h4 }:=by
  refine uE (X':=aV X N scope s3.heap.objs.size s3 (upd H1 s2.heap.objs.size (.lst [])) fp pins) (all:=all) (g':=g') rfl hc T fx J1 hDn (aD.le hz) hg hi he ?_ _ _ _ ι1 (bu fr σd) g1 I4 t4 (fun b hb=>(f3 b hb).1) ((Ext.refl (H:=H1) (ι:=ι1)).jr hDn) (G1.hide hDn) ?_ aR h2
  . intro s' σ' H' ιo vs I' fr' E' G' hD' r'
    have I5:Inv X pins σ H' s':=I3.rF (ch:=fp) I'.os I'.base I'.hok I'.bare fun b hb=>⟨(f3 b hb).2.2.2.1,(f3 b hb).2.1,(f3 b hb).2.2.2.2.1,(f3 b hb).2.2.2.2.2⟩
    obtain⟨m,hm,_⟩:=I'.loc
    refine fin s' H' ιo vs _ _ I5 ?_ ⟨m,hm⟩ (e1.trans E') G' hD' r' ?_ ?_
    . have z:=I3.fF (H':=H') (b:=s3.heap.objs.size) (Nat.le_refl _) I'.free
      exact z
    . rw [E'.hid];exact G1.gW hDn
    . cases q:H s2.heap.objs.size with
      | none=>rfl
      | some o=>exact absurd hDn (e1.there _ (by rw [q];simp))
  . have S1:aS X.kw H1 ι1 (bu fr σd) (bu fr σ):=(S0.ext e1).sub fr
    exact⟨S1.1,fun j d q=>let⟨v,a,b⟩:=S1.2 j d q;⟨v,a,Rel.hide hDn d b⟩⟩
 exact codeAny_compStart_list loop (T.self _ 0 _ _ _ t4 loop)
theorem iF {H ι H' ιo K g' all vs Dl d gg Q}(e:Ext H ι H' ιo)(G':au K H' (Ix.hide ιo Dl) g')(hD:H' Dl=some (.lst vs))(r:ag K H' (Ix.hide ιo Dl) all vs)(hn:Dl ∉ ιo.hd)(hm:bB all g'=some (d,gg))(p:eF K H ι d gg Q):Q (.ref Dl) H':=by
 cases hm
 refine p H' ιo _ e G'.show ?_
 simp only [Rel]
 exact⟨Dl,vs,rfl,.inl ⟨.inl hD,(G'.hid Dl List.mem_cons_self).1,hn⟩,ag.show _ r⟩
end
section
variable {X:Cx}{tg iter elt:Expr}{ifs:List Expr}{scope:Scope}{pos cpos:Pos}{N:List Str}{fr:List (Option Nat)}{fi:FI}{t:FG}{c:FT}{e:FE}
theorem x4 (hxe:X.xe=fun _ _=>False)(hc:X.calm=true)(ok:du X N fr scope)(hit:DI X tg iter fi)(hin:∀C s3 H fp pins,DG (aV X N scope C s3 H fp pins) tg t/\dZ (aV X N scope C s3 H fp pins) ifs c/\DE (aV X N scope C s3 H fp pins) elt e)
   (hs:∀x,foldedSetIterable iter X.env x=pure x:=by intro _;rfl):DE X (.ListComp elt [⟨tg,iter,ifs,0⟩] scope pos) (bA bB fi fr t c e):=.of (by
 intro pins s σ H Q I h
 obtain⟨ι,σd,g,d,gg,G0,S0,h,p⟩:=h
 obtain⟨⟨ds,g1⟩,h1,h⟩:=bind_some h
 dsimp only at h
 split at h
 . rename_i hz
   obtain⟨⟨all,g'⟩,h2,h⟩:=bind_some h
   rw [eval_ListComp]
   refine mf (use:=none) hxe hc ok hit hin hs I G0 S0 h1 hz h2 fun s' H' ιo vs Dl C I' fC ⟨m,hm⟩ e' G' hD r hn hf0=>?_
   refine⟨m,hm,fun h'' sb=>⟨.ref Dl,H',?_,rfl,iF e' G' hD r hn h p⟩⟩
   obtain⟨f0,f1,f2,f3,f4,f5⟩:=fC
   exact I'.turned (t':=s'.toks) (fun b o hb e=>sb.extBut b o hb e) f0 f1 f3 f4 f5
 . cases h)
theorem nu {mk:List D->G->Option (D×G)}{i:Nat}{x:Str}{px spos:Pos}(hmk:∀{H ι H' ιo g' all vs Dl d gg Q},Ext H ι H' ιo->H Dl=none->au X.kw H' (Ix.hide ιo Dl) g'->H' Dl=some (.lst vs)->ag X.kw H' (Ix.hide ιo Dl) all vs->Dl ∉ ιo.hd->mk all g'=some (d,gg)->eF X.kw H ι d gg Q->Q (.ref Dl) H')
   (hxe:X.xe=fun _ _=>False) (hc:X.calm=true) (ok:du X N fr scope) (hit:DI X tg iter fi) (hin:∀C s3 H fp pins,DG (aV X N scope C s3 H fp pins) tg t/\dZ (aV X N scope C s3 H fp pins) ifs c/\DE (aV X N scope C s3 H fp pins) elt e)
   (hN:X.N.Nodup) (hi:X.N[i]? = some x) (hx:Loc X.env.scope x)
   (hsw:swapsWith (.ListComp elt [⟨tg,iter,ifs,0⟩] scope pos) (some (.Name x px)) spos.line X.env=pure true)
   (hs:∀x,foldedSetIterable iter X.env x=pure x) (hf:X.fn x=true\/X.env.scope.names.lookup x=some .local):DS X (.Assign [.Name x px] (.ListComp elt [⟨tg,iter,ifs,0⟩] scope pos) spos) (aF (bA mk fi fr t c e) (gN i)):=.of (by
 intro pins s σ H Dn I h
 obtain⟨ι,σd,g,r,σd',gg,G0,S0,h0,p⟩:=h
 obtain⟨⟨d,gg'⟩,h1',hr⟩:=bind_some h0
 have hr':some (F.nx,σd.set i (some d),gg')=some (r,σd',gg):=hr
 clear h0
 obtain⟨⟨ds,g1⟩,h1,h3⟩:=bind_some (x:=fi σd g) h1'
 dsimp only at h3
 split at h3
 . rename_i hz
   obtain⟨⟨all,g'⟩,h2,h4⟩:=bind_some h3
   rw [exec_Assign_Name_used _ _ _ _ hsw]
   refine wpAny_bind (wpAny_standAt (wpAny_bind ?_))
   show wpAny _ X.A (do let _ <- comprehension (.ListComp elt [⟨tg,iter,ifs,0⟩] scope pos) scope X.env _ (newList []) false (eval iter X.env) (some (assign (.Name x px) X.env))) _ _ s
   refine wpAny_bind (wpAny_mono (mf (use:=some (assign (.Name x px) X.env)) (Q:=fun _ s'=>SP X pins Dn .next s') hxe hc ok hit hin hs I G0 S0 h1 hz h2 fun s' H' ιo vs Dl C I' fC ⟨m,hm⟩ e' G' hD r hn hf0=>?_) (fun _ s' hq=>wpAny_pure (wpAny_pure hq)) fun _ _ e=>e)
   show wpAny _ X.A (assign (.Name x px) X.env (.ref Dl)) _ _ _
   refine wpAny_assign_Name (l_ I' hN hi hx (v:=.ref Dl) rfl (fun s'' I'' ⟨a,sb,ha⟩=>?_) hf)
   obtain⟨f0,f1,f2,f3,f4,f5⟩:=fC
   have hac:C≠a:=by
    rcases ha with rfl | ha
    . exact f1
    . exact fun z=>f4 _ _ ha z.symm
   obtain⟨oc,es,ep,ho,rest⟩:=hm
   refine⟨m,⟨oc,es,ep,(sb.2 C hac).trans ho,rest⟩,fun h'' sb2=>?_⟩
   refine⟨σ.set i (some (.ref Dl)),H',I''.turned (t':=s''.toks) (fun b o hb e=>sb2.extBut b o hb e) f0 f1 f3 f4 f5,?_⟩
   cases hr'
   exact hmk (Q:=fun v H'=>Dn.nx (σ.set i (some v)) H') e' hf0 G' hD r hn h4 fun H2 ι2 v e2 G2 r2=>p H2 ι2 e2 G2 _ ((S0.ext e2).set r2 i)
 . cases h3)
theorem sr {i:Nat}{x:Str}{px spos:Pos}(hxe:X.xe=fun _ _=>False)(hc:X.calm=true)(ok:du X N fr scope)(hit:DI X tg iter fi)(hin:∀C s3 H fp pins,DG (aV X N scope C s3 H fp pins) tg t/\dZ (aV X N scope C s3 H fp pins) ifs c/\DE (aV X N scope C s3 H fp pins) elt e)
  (hN:X.N.Nodup) (hi:X.N[i]? = some x) (hx:Loc X.env.scope x) (hsw:swapsWith (.ListComp elt [⟨tg,iter,ifs,0⟩] scope pos) (some (.Name x px)) spos.line X.env=pure true:=by rfl)
  (hs:∀x,foldedSetIterable iter X.env x=pure x:=by intro _;rfl) (hf:X.fn x=true\/X.env.scope.names.lookup x=some .local:=by first | exact .inl rfl | exact .inr rfl | assumption) :
  DS X (.Assign [.Name x px] (.ListComp elt [⟨tg,iter,ifs,0⟩] scope pos) spos) (aF (bA bB fi fr t c e) (gN i)) :=
 (nu (fun e' _ G' hD r hn h4 p=>iF e' G' hD r hn h4 p) hxe hc ok hit hin hN hi hx hsw hs hf)
end
def aK (c:Int->Int->Bool)(f:Int->Int->Int)(d1 d2:D)(g:G):Option (D×G):=match d1,d2 with
 | .int i,.int j=>if c i j=true then some (.int (f i j),g) else none
 | _,_=>none
def kF (f:Int->Int->Bool)(d1 d2:D)(g:G):Option (D×G):=match d1,d2 with
 | .int i,.int j=>some (.bl (f i j),g)
 | _,_=>none
def aW (_ _:Int):Bool:=true
def cR (i j:Int):Bool:=Nat.ble i.natAbs 18446744073709551615||Nat.ble j.natAbs 18446744073709551615
def dF (_ j:Int):Bool:=Nat.ble 1 j.toNat&&Nat.ble j.toNat 1073741823
def cb (_ j:Int):Bool:=Nat.ble 1 j.toNat
def bY (i j:Int):Bool:=(match j with | .ofNat n=>Nat.ble n 1000000 | .negSucc _=>false)&&Nat.ble i.natAbs 18446744073709551615
section
variable {X:Cx}
theorem eP {f:Value->Value->Sem Value}{C:Int->Int->Prop}{c:Int->Int->Bool}{fi:Int->Int->Int}(h:aT X f (rI C fun i j=>.int (fi i j)))(hc:∀i j,c i j=true->C i j):aT X f (bU X.kw (aK c fi)):=by
 intro pins s σ H x y v u Q I rx ry q
 obtain⟨ι,g,d1,d2,d,g',G0,r1,r2,q,p⟩:=q
 cases d1 with
 | int i =>
  cases d2 with
  | int j =>
   simp only [Rel] at r1 r2;subst r1;subst r2
   simp only [aK] at q
   split at q
   . rename_i z
     cases q
     exact h pins s σ H _ _ v u Q I rx ry ⟨i,j,rfl,rfl,hc i j z,p H ι _ Ext.refl G0 (by simp [Rel])⟩
   . cases q
  | _=>cases q
 | _=>cases q
theorem jx {g:Int->Int->V}{x y:V}{H:Hp}{Q:VK}(h:rI (fun _ _=>True) g x y H Q):iK g x y H Q:=let⟨i,j,a,b,_,q⟩:=h;⟨i,j,a,b,q⟩
theorem aT.imp {f:Value->Value->Sem Value}{r r':R2}(h:aT X f r)(i:∀x y H Q,r' x y H Q->r x y H Q):aT X f r':=fun pins s σ H x y v u Q I rx ry q=>h pins s σ H x y v u Q I rx ry (i _ _ _ _ q)
theorem Bc:aT X (binaryOp .Sub) (bU X.kw (aK aW (· - ·))):=eP (aT.imp Ac fun _ _ _ _=>jx) fun _ _ _=>trivial
theorem zh:aT X (binaryOp .Add) (bU X.kw (aK aW (· + ·))):=eP (aT.imp Ax fun _ _ _ _=>jx) fun _ _ _=>trivial
theorem x8:aT X (binaryOp .Mult) (bU X.kw (aK cR (· * ·))):=eP Cn fun i j h=>by
 unfold cR at h
 simp only [Bool.or_eq_true] at h
 rcases h with h | h
 . have:=Nat.le_of_ble_eq_true h
   exact .inl ⟨by omega,by omega⟩
 . have:=Nat.le_of_ble_eq_true h
   exact .inr ⟨by omega,by omega⟩
theorem yI:aT X (binaryOp .FloorDiv) (bU X.kw (aK dF (· / ·))):=eP y0 fun i j h=>by
 unfold dF at h
 simp only [Bool.and_eq_true] at h
 have h1:=Nat.le_of_ble_eq_true h.1
 have h2:=Nat.le_of_ble_eq_true h.2
 exact⟨by omega,by omega⟩
theorem BJ:aT X (binaryOp .Mod) (bU X.kw (aK cb (· % ·))):=eP BU fun i j h=>by
 have h1:=Nat.le_of_ble_eq_true (show Nat.ble 1 j.toNat=true from h)
 show 0<j
 omega
theorem CA:aT X (binaryOp .Pow) (bU X.kw (aK bY (fun i j=>i ^ j.toNat))):=eP Cb fun i j h=>by
 unfold bY at h
 simp only [Bool.and_eq_true] at h
 have h2:=Nat.le_of_ble_eq_true h.2
 cases j with
 | ofNat n =>
  have h1:=Nat.le_of_ble_eq_true (show Nat.ble n 1000000=true from h.1)
  exact⟨Int.natCast_nonneg n,(by show((n:Nat):Int)<=1000000;omega),(by omega)⟩
 | negSucc n=>exact absurd h.1 (by simp)
theorem mW {f:Value->Value->Sem Value}{fi:Int->Int->Bool}(h:aT X f (iK fun i j=>.bl (fi i j))):aT X f (bU X.kw (kF fi)):=by
 intro pins s σ H x y v u Q I rx ry q
 obtain⟨ι,g,d1,d2,d,g',G0,r1,r2,q,p⟩:=q
 cases d1 with
 | int i =>
  cases d2 with
  | int j =>
   simp only [Rel] at r1 r2;subst r1;subst r2
   cases q
   exact h pins s σ H _ _ v u Q I rx ry ⟨i,j,rfl,rfl,p H ι _ Ext.refl G0 (by simp [Rel])⟩
  | _=>cases q
 | _=>cases q
theorem DC:aT X (compareOp .Lt) (bU X.kw (kF fun i j=>decide (i<j))):=mW DR
theorem Dx:aT X (compareOp .LtE) (bU X.kw (kF fun i j=>decide (i<=j))):=mW EF
theorem EH:aT X (compareOp .Gt) (bU X.kw (kF fun i j=>decide (j<i))):=mW EB
theorem EC:aT X (compareOp .GtE) (bU X.kw (kF fun i j=>decide (j<=i))):=mW Ea
def fj (d:D)(g:G):Option (D×G):=match d with | .int i=>some (.int (-i),g) | _=>none
theorem CP:sQ X (unaryOp .USub) (Cq X.kw fj):=by
 intro pins s σ H x v Q I rx q
 obtain⟨ι,g,d1,d,g',G0,r1,q,p⟩:=q
 cases d1 with
 | int i =>
  simp only [Rel] at r1;subst r1
  cases q
  exact A6 pins s σ H _ v Q I rx ⟨i,rfl,p H ι _ Ext.refl G0 (by simp [Rel])⟩
 | _=>cases q
mutual
def flat:D->Bool
 | .ref _=>false
 | .edc=>false
 | .aQ _=>false
 | .fn _=>false
 | .tup xs=>aX xs
 | .lst xs=>aX xs
 | _=>true
def aX:List D->Bool
 | []=>true
 | d::ds=>flat d&&aX ds
end
mutual
def aA:D->D->Bool
 | .non,.non=>true
 | .bl a,.bl b=>a == b
 | .bl a,.int b=>(if a then 1 else 0) == b
 | .int a,.bl b=>a == (if b then 1 else 0)
 | .int a,.int b=>a == b
 | .str a,.str b=>a == b
 | .tup xs,.tup ys=>cv xs ys
 | .lst xs,.lst ys=>cv xs ys
 | _,_=>false
def cv:List D->List D->Bool
 | [],[]=>true
 | x::xs,y::ys=>aA x y&&cv xs ys
 | _,_=>false
end
mutual
def dep:D->Nat
 | .tup xs=>bM xs+1
 | .lst xs=>bM xs+1
 | _=>0
def bM:List D->Nat
 | []=>0
 | d::ds=>max (dep d) (bM ds)
end
mutual
theorem eh:∀d:D,flat d=true->aA d d=true
 | .non,_=>by simp [aA]
 | .bl _,_=>by simp [aA]
 | .int _,_=>by simp [aA]
 | .str _,_=>by simp [aA]
 | .tup xs,h=>by simp only [aA];exact jg xs h
 | .lst xs,h=>by simp only [aA];exact jg xs h
theorem jg:∀ds:List D,aX ds=true->cv ds ds=true
 | [],_=>by simp [cv]
 | d::ds,h=>by
  simp only [aX,Bool.and_eq_true] at h
  simp only [cv,Bool.and_eq_true]
  exact⟨eh d h.1,jg ds h.2⟩
end
theorem gp:∀xs ys:List D,cv xs ys=((List.range (min xs.length ys.length)).all (fun j=>aA (xs[j]?.getD .non) (ys[j]?.getD .non))&&xs.length == ys.length)
 | [],[]=>by simp [cv]
 | [],y::ys=>by simp [cv]
 | x::xs,[]=>by simp [cv]
 | x::xs,y::ys=>by
  simp only [cv,gp xs ys,List.length_cons,Nat.succ_min_succ,List.range_succ_eq_map,List.all_cons,List.getElem?_cons_zero,Option.getD_some,List.all_map,Function.comp_def,List.getElem?_cons_succ]
  rw [Bool.and_assoc]
  congr 2
  simp
theorem jF {pins:List (Addr×Obj)}{σ:L2.St}{H:Hp}{s:Shared}{a:Addr}{xs ys:List V}(I:Inv X pins σ H s)(h:cq X.kw H a xs)(h':cw X.kw H a ys):False:=by
 obtain⟨its,_,ht,_⟩:=I.tuple h
 obtain⟨its',_,hl,_⟩:=I.list h'
 exact SeqAt.ne_of_list_tuple hl.isList ht rfl
mutual
theorem Rel.inj {pins:List (Addr×Obj)}{σ:L2.St}{H:Hp}{s:Shared}{ι:Ix}(I:Inv X pins σ H s):∀(d1 d2:D) {v:V},flat d1=true->flat d2=true->Rel X.kw H ι d1 v->Rel X.kw H ι d2 v->d1=d2
 | .non,d2,v,_,f2,r1,r2=>by
  simp only [Rel] at r1;subst r1
  cases d2<;>simp_all [Rel,flat]
 | .bl _,d2,v,_,f2,r1,r2=>by
  simp only [Rel] at r1;subst r1
  cases d2<;>simp_all [Rel,flat]
 | .int _,d2,v,_,f2,r1,r2=>by
  simp only [Rel] at r1;subst r1
  cases d2<;>simp_all [Rel,flat]
 | .str _,d2,v,_,f2,r1,r2=>by
  simp only [Rel] at r1;subst r1
  cases d2<;>simp_all [Rel,flat]
 | .tup xs,d2,v,f1,f2,r1,r2=>by
  simp only [Rel] at r1
  obtain⟨a,vs,rfl,hq,hr⟩:=r1
  cases d2 with
  | tup ys =>
   simp only [Rel] at r2
   obtain⟨a',ws,e,hq',hr'⟩:=r2
   cases e
   have:=I.fD hq.sq hq'.sq
   subst this
   rw [ag.inj I xs ys f1 f2 hr hr']
  | lst ys =>
   simp only [Rel] at r2
   obtain⟨a',ws,e,hq',hr'⟩:=r2
   cases e
   exact(jF I hq.sq hq'.sq).elim
  | edc=>cases f2
  | ref n=>cases f2
  | aQ n=>cases f2
  | fn x=>cases f2
  | _=>simp [Rel] at r2
 | .lst xs,d2,v,f1,f2,r1,r2=>by
  simp only [Rel] at r1
  obtain⟨a,vs,rfl,hq,hr⟩:=r1
  cases d2 with
  | lst ys =>
   simp only [Rel] at r2
   obtain⟨a',ws,e,hq',hr'⟩:=r2
   cases e
   have:=I.jV hq.sq hq'.sq
   subst this
   rw [ag.inj I xs ys f1 f2 hr hr']
  | tup ys =>
   simp only [Rel] at r2
   obtain⟨a',ws,e,hq',hr'⟩:=r2
   cases e
   exact(jF I hq'.sq hq.sq).elim
  | edc=>cases f2
  | ref n=>cases f2
  | aQ n=>cases f2
  | fn x=>cases f2
  | _=>simp [Rel] at r2
 | .edc,d2,v,f1,_,_,_=>by cases f1
 | .ref _,d2,v,f1,_,_,_=>by cases f1
 | .aQ _,d2,v,f1,_,_,_=>by cases f1
 | .fn _,d2,v,f1,_,_,_=>by cases f1
theorem ag.inj {pins:List (Addr×Obj)}{σ:L2.St}{H:Hp}{s:Shared}{ι:Ix}(I:Inv X pins σ H s):∀(ds es:List D) {vs:List V},aX ds=true->aX es=true->ag X.kw H ι ds vs->ag X.kw H ι es vs->ds=es
 | [],es,vs,_,_,r1,r2=>by
  simp only [ag] at r1;subst r1
  cases es with
  | nil=>rfl
  | cons e es=>simp [ag] at r2
 | d::ds,es,vs,f1,f2,r1,r2=>by
  simp only [ag] at r1
  obtain⟨v,vr,rfl,hv,hr⟩:=r1
  cases es with
  | nil=>simp [ag] at r2
  | cons e es =>
   simp only [ag] at r2
   obtain⟨v',vr',e1,hv',hr'⟩:=r2
   cases e1
   simp only [aX,Bool.and_eq_true] at f1 f2
   rw [Rel.inj I d e f1.1 f2.1 hv hv',ag.inj I ds es f1.2 f2.2 hr hr']
end
theorem Rel.pU {K H ι d v b t}(r:Rel K H ι d v)(rv:RelV v (.float b t)):False:=by
 cases d with
 | non=>simp only [Rel] at r;subst r;cases rv
 | bl _=>simp only [Rel] at r;subst r;cases rv
 | int _=>simp only [Rel] at r;subst r;obtain⟨t,e⟩:=rv;cases e
 | str _=>simp only [Rel] at r;subst r;obtain⟨t,e⟩:=rv;cases e
 | tup _=>simp only [Rel] at r;obtain⟨a,vs,rfl,_⟩:=r;cases rv
 | lst _=>simp only [Rel] at r;obtain⟨a,vs,rfl,_⟩:=r;cases rv
 | edc=>simp only [Rel] at r;obtain⟨a,rfl,_⟩:=r;cases rv
 | ref _=>simp only [Rel] at r;obtain⟨a,rfl,_⟩:=r;cases rv
 | aQ _=>simp only [Rel] at r;obtain⟨a,rfl,_⟩:=r;cases rv
 | fn _=>simp only [Rel] at r;obtain⟨a,rfl,_⟩:=r;cases rv
theorem in1_units (A:Around):A.in1.units=A.units+1:=rfl
section
open SeqAt
variable {pins:List (Addr×Obj)}{σ:L2.St}{H:Hp}{s:Shared}{ι:Ix}
theorem ko {A:Around}{s:Shared}{u v:Value}{k:Bool}(h:RcAt A s u v k)(hs:u=v->k=true)(hnf:∀b t,u ≠ .float b t):EqAt A s u v k:=fun prog w E Q hq=>by
 unfold eqBool
 refine wpAny_holding ?_
 refine wpAny_ite_split (fun hab=>?_) (fun _=>?_)
 . rw [hs (eq_of_beq hab)] at hq
   exact wpAny_bind (wpAny_rule (wpAny_pure hq))
 . cases u with
   | float b t=>exact absurd rfl (hnf b t)
   | _=>exact wpAny_bind (h prog w E _ (wpAny_truthy_bool hq))
set_option maxHeartbeats 4000000 in
mutual
theorem nH (I:Inv X pins σ H s):∀(d1 d2:D) {A:Around} {x y:V} {u v:Value},flat d1=true->flat d2=true->Rel X.kw H ι d1 x->Rel X.kw H ι d2 y->RelV x u->RelV y v->A.units+dep d1<cLine->RcAt A s u v (aA d1 d2)
 | .non,d2,A,x,y,u,v,_,f2,r1,r2,ru,rv,hu=>by
  simp only [Rel] at r1;subst r1;cases ru
  cases d2 with
  | non=>simp only [Rel] at r2;subst r2;cases rv;simp only [aA];exact .none_none
  | bl b=>simp only [Rel] at r2;subst r2;cases rv;simp only [aA];exact .none_bool b
  | int b=>simp only [Rel] at r2;subst r2;obtain⟨t,rfl⟩:=rv;simp only [aA];exact .none_int b t
  | str b=>simp only [Rel] at r2;subst r2;obtain⟨t,rfl⟩:=rv;simp only [aA];exact .none_str b t
  | tup ys=>simp only [Rel] at r2;obtain⟨a',ws,rfl,hq,hr⟩:=r2;cases rv;obtain⟨its,_,ht,_⟩:=I.tuple hq.sq;simp only [aA];exact .none_tuple ht (by omega)
  | lst ys=>simp only [Rel] at r2;obtain⟨a',ws,rfl,hq,hr⟩:=r2;cases rv;obtain⟨its,_,ht,_⟩:=I.list hq.sq;simp only [aA];exact .none_list ht.isList (by omega)
  | _=>cases f2
 | .bl a,d2,A,x,y,u,v,_,f2,r1,r2,ru,rv,hu=>by
  simp only [Rel] at r1;subst r1;cases ru
  cases d2 with
  | non=>simp only [Rel] at r2;subst r2;cases rv;simp only [aA];exact .bool_none a
  | bl b=>simp only [Rel] at r2;subst r2;cases rv;simp only [aA];exact .bool_bool a b
  | int b=>simp only [Rel] at r2;subst r2;obtain⟨t,rfl⟩:=rv;simp only [aA];exact .bool_int a b t
  | str b=>simp only [Rel] at r2;subst r2;obtain⟨t,rfl⟩:=rv;simp only [aA];exact .bool_str a b t
  | tup ys=>simp only [Rel] at r2;obtain⟨a',ws,rfl,hq,hr⟩:=r2;cases rv;obtain⟨its,_,ht,_⟩:=I.tuple hq.sq;simp only [aA];exact .bool_tuple a ht (by omega)
  | lst ys=>simp only [Rel] at r2;obtain⟨a',ws,rfl,hq,hr⟩:=r2;cases rv;obtain⟨its,_,ht,_⟩:=I.list hq.sq;simp only [aA];exact .bool_list a ht.isList (by omega)
  | _=>cases f2
 | .int a,d2,A,x,y,u,v,_,f2,r1,r2,ru,rv,hu=>by
  simp only [Rel] at r1;subst r1;obtain⟨t0,rfl⟩:=ru
  cases d2 with
  | non=>simp only [Rel] at r2;subst r2;cases rv;simp only [aA];exact .int_none a t0
  | bl b=>simp only [Rel] at r2;subst r2;cases rv;simp only [aA];exact .int_bool a t0 b
  | int b=>simp only [Rel] at r2;subst r2;obtain⟨t,rfl⟩:=rv;simp only [aA];exact .int_int a t0 b t
  | str b=>simp only [Rel] at r2;subst r2;obtain⟨t,rfl⟩:=rv;simp only [aA];exact .int_str a t0 b t
  | tup ys=>simp only [Rel] at r2;obtain⟨a',ws,rfl,hq,hr⟩:=r2;cases rv;obtain⟨its,_,ht,_⟩:=I.tuple hq.sq;simp only [aA];exact .int_tuple a t0 ht (by omega)
  | lst ys=>simp only [Rel] at r2;obtain⟨a',ws,rfl,hq,hr⟩:=r2;cases rv;obtain⟨its,_,ht,_⟩:=I.list hq.sq;simp only [aA];exact .int_list a t0 ht.isList (by omega)
  | _=>cases f2
 | .str a,d2,A,x,y,u,v,_,f2,r1,r2,ru,rv,hu=>by
  simp only [Rel] at r1;subst r1;obtain⟨t0,rfl⟩:=ru
  cases d2 with
  | non=>simp only [Rel] at r2;subst r2;cases rv;simp only [aA];exact .str_none a t0
  | bl b=>simp only [Rel] at r2;subst r2;cases rv;simp only [aA];exact .str_bool a t0 b
  | int b=>simp only [Rel] at r2;subst r2;obtain⟨t,rfl⟩:=rv;simp only [aA];exact .str_int a t0 b t
  | str b=>simp only [Rel] at r2;subst r2;obtain⟨t,rfl⟩:=rv;simp only [aA];exact .str_str a t0 b t
  | tup ys=>simp only [Rel] at r2;obtain⟨a',ws,rfl,hq,hr⟩:=r2;cases rv;obtain⟨its,_,ht,_⟩:=I.tuple hq.sq;simp only [aA];exact .str_tuple a t0 ht (by omega)
  | lst ys=>simp only [Rel] at r2;obtain⟨a',ws,rfl,hq,hr⟩:=r2;cases rv;obtain⟨its,_,ht,_⟩:=I.list hq.sq;simp only [aA];exact .str_list a t0 ht.isList (by omega)
  | _=>cases f2
 | .tup xs,d2,A,x,y,u,v,f1,f2,r1,r2,ru,rv,hu=>by
  simp only [Rel] at r1;obtain⟨a,vs,rfl,hq,hr⟩:=r1;cases ru
  obtain⟨its,rits,ht,_⟩:=I.tuple hq.sq
  simp only [dep] at hu
  cases d2 with
  | non=>simp only [Rel] at r2;subst r2;cases rv;simp only [aA];exact .tuple_none ht (by omega)
  | bl b=>simp only [Rel] at r2;subst r2;cases rv;simp only [aA];exact .tuple_bool b ht (by omega)
  | int b=>simp only [Rel] at r2;subst r2;obtain⟨t,rfl⟩:=rv;simp only [aA];exact .tuple_int b t ht (by omega)
  | str b=>simp only [Rel] at r2;subst r2;obtain⟨t,rfl⟩:=rv;simp only [aA];exact .tuple_str b t ht (by omega)
  | tup ys =>
   simp only [Rel] at r2;obtain⟨a',ws,rfl,hq',hr'⟩:=r2;cases rv
   obtain⟨its',rits',ht',_⟩:=I.tuple hq'.sq
   simp only [aA,gp]
   have l1:xs.length=its.toArray.size:=by rw [List.size_toArray,<- rits.length];exact hr.length
   have l2:ys.length=its'.toArray.size:=by rw [List.size_toArray,<- rits'.length];exact hr'.length
   rw [l1,l2]
   refine .tuples ht ht' (by omega) fun j h1 h2=>?_
   have:=gU I xs ys (A:=A.in1) f1 f2 hr hr' rits rits' (by rw [in1_units];omega) j (by simpa using h1) (by simpa using h2)
   simpa using this
  | lst ys =>
   simp only [Rel] at r2;obtain⟨a',ws,rfl,hq',hr'⟩:=r2;cases rv
   obtain⟨its',rits',ht',_⟩:=I.list hq'.sq
   simp only [aA];exact .tuple_list ht ht'.isList (by omega)
  | _=>cases f2
 | .lst xs,d2,A,x,y,u,v,f1,f2,r1,r2,ru,rv,hu=>by
  simp only [Rel] at r1;obtain⟨a,vs,rfl,hq,hr⟩:=r1;cases ru
  obtain⟨its,rits,ht,_⟩:=I.list hq.sq
  simp only [dep] at hu
  cases d2 with
  | non=>simp only [Rel] at r2;subst r2;cases rv;simp only [aA];exact .list_none ht.isList (by omega)
  | bl b=>simp only [Rel] at r2;subst r2;cases rv;simp only [aA];exact .list_bool b ht.isList (by omega)
  | int b=>simp only [Rel] at r2;subst r2;obtain⟨t,rfl⟩:=rv;simp only [aA];exact .list_int b t ht.isList (by omega)
  | str b=>simp only [Rel] at r2;subst r2;obtain⟨t,rfl⟩:=rv;simp only [aA];exact .list_str b t ht.isList (by omega)
  | lst ys =>
   simp only [Rel] at r2;obtain⟨a',ws,rfl,hq',hr'⟩:=r2;cases rv
   obtain⟨its',rits',ht',_⟩:=I.list hq'.sq
   simp only [aA,gp]
   have l1:xs.length=its.toArray.size:=by rw [List.size_toArray,<- rits.length];exact hr.length
   have l2:ys.length=its'.toArray.size:=by rw [List.size_toArray,<- rits'.length];exact hr'.length
   rw [l1,l2]
   by_cases hs:its.toArray.size=its'.toArray.size
   . have e0:(its.toArray.size == its'.toArray.size)=true:=by simpa using hs
     rw [e0,Bool.and_true,<- hs,Nat.min_self]
     refine .lists ht.isList ht'.isList hs (by omega) fun j h1 h2=>?_
     have:=gU I xs ys (A:=A.in1) f1 f2 hr hr' rits rits' (by rw [in1_units];omega) j (by simpa using h1) (by simpa using h2)
     simpa using this
   . have e0:(its.toArray.size == its'.toArray.size)=false:=by simpa using hs
     rw [e0,Bool.and_false]
     exact .lists_lengths ht.isList ht'.isList (by simpa using hs) (by omega)
  | tup ys =>
   simp only [Rel] at r2;obtain⟨a',ws,rfl,hq',hr'⟩:=r2;cases rv
   obtain⟨its',rits',ht',_⟩:=I.tuple hq'.sq
   simp only [aA];exact .list_tuple ht.isList ht' (by omega)
  | _=>cases f2
 | .edc,d2,A,x,y,u,v,f1,_,_,_,_,_,_=>by cases f1
 | .ref _,d2,A,x,y,u,v,f1,_,_,_,_,_,_=>by cases f1
 | .aQ _,d2,A,x,y,u,v,f1,_,_,_,_,_,_=>by cases f1
 | .fn _,d2,A,x,y,u,v,f1,_,_,_,_,_,_=>by cases f1
theorem gU (I:Inv X pins σ H s):∀(xs ys:List D) {A:Around} {vs ws:List V} {us zs:List Value},aX xs=true->aX ys=true->ag X.kw H ι xs vs->ag X.kw H ι ys ws->Vals vs us->Vals ws zs->A.units+bM xs<cLine ->
  ∀(j:Nat) (h1:j<us.length) (h2:j<zs.length),EqAt A s us[j] zs[j] (aA (xs[j]?.getD .non) (ys[j]?.getD .non))
 | [],ys,A,vs,ws,us,zs,_,_,r1,_,ru,_,_,j,h1,_=>by
  simp only [ag] at r1;subst r1;cases ru;simp at h1
 | d::ds,ys,A,vs,ws,us,zs,f1,f2,r1,r2,ru,rz,hu,j,h1,h2=>by
  simp only [ag] at r1
  obtain⟨v,vr,rfl,hv,hr⟩:=r1
  simp only [bM] at hu
  simp only [aX,Bool.and_eq_true] at f1
  cases ru with
  | cons ru0 rur =>
   cases ys with
   | nil=>simp only [ag] at r2;subst r2;cases rz;simp at h2
   | cons e es =>
    simp only [ag] at r2
    obtain⟨w,wr,rfl,hw,hwr⟩:=r2
    simp only [aX,Bool.and_eq_true] at f2
    cases rz with
    | cons rz0 rzr =>
     cases j with
     | zero =>
      have rc:=nH I d e (A:=A) f1.1 f2.1 hv hw ru0 rz0 (by omega)
      simp only [List.getElem_cons_zero,List.getElem?_cons_zero,Option.getD_some]
      refine ko rc (fun euv=>?_) (fun b t ef=>Rel.pU hv (by rw [ef] at ru0;exact ru0))
      subst euv
      have exy:=ru0.inj rz0
      subst exy
      have ede:=Rel.inj I d e f1.1 f2.1 hv hw
      subst ede
      exact eh d f1.1
     | succ j =>
      have:=gU I ds es (A:=A) f1.2 f2.2 hr hwr rur rzr (by omega) j (by simpa using h1) (by simpa using h2)
      simpa using this
end
end
def oEq (d1 d2:D)(g:G):Option (D×G):=if(flat d1&&flat d2&&decide (dep d1<=60))=true then some (.bl (aA d1 d2),g) else none
theorem Eh (hu:X.A.units+64<cLine):aT X (compareOp .Eq) (bU X.kw oEq):=by
 intro pins s σ H x y v u Q I rx ry q
 obtain⟨ι,g,d1,d2,d,g',G0,r1,r2,q,p⟩:=q
 unfold oEq at q
 split at q
 . rename_i z
   simp only [Bool.and_eq_true,decide_eq_true_eq] at z
   cases q
   exact nH I d1 d2 z.1.1 z.1.2 r1 r2 rx ry (by omega) _ _ _ _ ⟨.bl _,H,I,rfl,p H ι _ Ext.refl G0 (by simp [Rel])⟩
 . cases q
def cP:D->Bool
 | .non=>true
 | _=>false
def uU (d1 d2:D)(g:G):Option (D×G):=match d2 with | .non=>some (.bl (cP d1),g) | _=>none
def rN (d1 d2:D)(g:G):Option (D×G):=match d2 with | .non=>some (.bl (!cP d1),g) | _=>none
theorem qs {K H ι d v}(r:Rel K H ι d v):decide (v=V.non)=cP d:=by
 cases d with
 | non=>simp only [Rel] at r;subst r;rfl
 | bl _=>simp only [Rel] at r;subst r;rfl
 | int _=>simp only [Rel] at r;subst r;rfl
 | str _=>simp only [Rel] at r;subst r;rfl
 | tup _=>simp only [Rel] at r;obtain⟨a,vs,rfl,_⟩:=r;rfl
 | lst _=>simp only [Rel] at r;obtain⟨a,vs,rfl,_⟩:=r;rfl
 | edc=>simp only [Rel] at r;obtain⟨a,rfl,_⟩:=r;rfl
 | ref _=>simp only [Rel] at r;obtain⟨a,rfl,_⟩:=r;rfl
 | aQ _=>simp only [Rel] at r;obtain⟨a,rfl,_⟩:=r;rfl
 | fn _=>simp only [Rel] at r;obtain⟨a,rfl,_⟩:=r;rfl
theorem BI:aT X (compareOp .Is) (bU X.kw uU):=by
 intro pins s σ H x y v u Q I rx ry q
 obtain⟨ι,g,d1,d2,d,g',G0,r1,r2,q,p⟩:=q
 cases d2 with
 | non =>
  simp only [Rel] at r2;subst r2
  simp only [uU] at q
  cases q
  exact z9 pins s σ H _ _ v u Q I rx ry ⟨rfl,by rw [qs r1];exact p H ι _ Ext.refl G0 (by simp [Rel])⟩
 | _=>cases q
theorem yg:aT X (compareOp .IsNot) (bU X.kw rN):=by
 intro pins s σ H x y v u Q I rx ry q
 obtain⟨ι,g,d1,d2,d,g',G0,r1,r2,q,p⟩:=q
 cases d2 with
 | non =>
  simp only [Rel] at r2;subst r2
  simp only [rN] at q
  cases q
  refine yW pins s σ H _ _ v u Q I rx ry ⟨rfl,?_⟩
  rw [qs r1]
  exact p H ι _ Ext.refl G0 (by simp [Rel])
 | _=>cases q
def cf (d:D)(g:G):Option (List D):=match d with
 | .tup xs=>some xs
 | .lst xs=>some xs
 | .ref n=>g[n]?
 | _=>none
theorem gF {K H ι g d v xs}(G0:au K H ι g)(r:Rel K H ι d v)(h:cf d g=some xs):∃a vs,v = .ref a/\(cw K H a vs\/cq K H a vs)/\ag K H ι xs vs:=by
 cases d with
 | tup ys=>cases h;simp only [Rel] at r;obtain⟨a,vs,rfl,hq,hr⟩:=r;exact⟨a,vs,rfl,.inr hq.sq,hr⟩
 | lst ys=>cases h;simp only [Rel] at r;obtain⟨a,vs,rfl,hq,hr⟩:=r;exact⟨a,vs,rfl,.inl hq.sq,hr⟩
 | ref n =>
  simp only [Rel] at r;obtain⟨a,rfl,ha⟩:=r
  obtain⟨vs,h1,h2⟩:=G0.at h ha
  exact⟨a,vs,rfl,.inl (.of h1),h2⟩
 | _=>cases h
def md (d1 d2:D)(g:G):Option (D×G):=match d2 with
 | .int i=>(cf d1 g).bind fun xs=>(cH xs i).map fun d=>(d,g)
 | _=>none
theorem yY {K H ι}{xs:List D}{vs:List V}{i:Int}{d:D}(r:ag K H ι xs vs)(h:cH xs i=some d):∃v,cH vs i=some v/\Rel K H ι d v:=by
 unfold cH at h ⊢
 rw [<- r.length]
 obtain⟨j,h1,h2⟩:=bind_some h
 obtain⟨v,h3,h4⟩:=r.get h2
 exact⟨v,by rw [h1];exact h3,h4⟩
theorem zy:je X (bU X.kw md):=by
 intro value slice pins s σ H x y v u Q I rx ry q hs
 obtain⟨ι,g,d1,d2,d,g',G0,r1,r2,q,p⟩:=q
 cases d2 with
 | int i =>
  simp only [Rel] at r2;subst r2
  simp only [md] at q
  obtain⟨xs,h1,q⟩:=bind_some q
  cases h2:cH xs i with
  | none=>rw [h2] at q;cases q
  | some e =>
   rw [h2] at q;cases q
   obtain⟨a,vs,rfl,hq,hr⟩:=gF G0 r1 h1
   obtain⟨w,h3,h4⟩:=yY hr h2
   have fin:=p H ι w Ext.refl G0 h4
   rcases hq with hq | hq
   . exact uv value slice pins s σ H _ _ v u Q I rx ry (.inl ⟨a,vs,i,w,rfl,rfl,hq,h3,fin⟩) hs
   . exact uv value slice pins s σ H _ _ v u Q I rx ry (.inr (.inl ⟨a,vs,i,w,rfl,rfl,hq,h3,fin⟩)) hs
 | _=>cases q
def bP (ds:List D)(g:G):Option (D×G):=match ds with | [d]=>(cf d g).map fun xs=>(.int xs.length,g) | _=>none
theorem Bd:ck X (.builtin "len") (gD X.kw bP):=by
 intro pins s σ H xs us Q I r q
 obtain⟨ι,g,ds,d,g',G0,r1,q,p⟩:=q
 cases ds with
 | nil=>cases q
 | cons e dsr =>
 cases dsr with
 | cons _ _=>cases q
 | nil =>
  simp only [bP] at q
  cases hx:cf e g with
  | none=>rw [hx] at q;cases q
  | some ys =>
   rw [hx] at q;cases q
   simp only [ag] at r1
   obtain⟨v,_,rfl,rv,rfl⟩:=r1
   obtain⟨a,vs,rfl,hq,hr⟩:=gF G0 rv hx
   exact nh pins s σ H _ us Q I r ⟨a,vs,rfl,hq,by rw [<- hr.length];exact p H ι _ Ext.refl G0 (by simp [Rel])⟩
def lK (ds:List D)(g:G):Option (D×G):=match ds with | [.int i,.int j]=>some (.int (if j>i then j else i),g) | _=>none
def lC (ds:List D)(g:G):Option (D×G):=match ds with | [.int i,.int j]=>some (.int (if j<i then j else i),g) | _=>none
theorem Bo (hc:X.calm=true):ck X (.builtin "max") (gD X.kw lK):=by
 intro pins s σ H xs us Q I r q
 obtain⟨ι,g,ds,d,g',G0,r1,q,p⟩:=q
 unfold lK at q
 split at q
 . cases q
   simp only [ag,Rel] at r1
   obtain⟨_,_,rfl,rfl,_,_,rfl,rfl,rfl⟩:=r1
   exact uF hc pins s σ H _ us Q I r ⟨_,_,rfl,p H ι _ Ext.refl G0 (by simp [Rel])⟩
 . cases q
theorem AJ (hc:X.calm=true):ck X (.builtin "min") (gD X.kw lC):=by
 intro pins s σ H xs us Q I r q
 obtain⟨ι,g,ds,d,g',G0,r1,q,p⟩:=q
 unfold lC at q
 split at q
 . cases q
   simp only [ag,Rel] at r1
   obtain⟨_,_,rfl,rfl,_,_,rfl,rfl,rfl⟩:=r1
   exact tN hc pins s σ H _ us Q I r ⟨_,_,rfl,p H ι _ Ext.refl G0 (by simp [Rel])⟩
 . cases q
def jh (ds:List D)(g:G):Option (D×G):=match ds with | [.int i]=>some (.int i,g) | [.bl k]=>some (.int (if k then 1 else 0),g) | _=>none
theorem Dk:ck X (.type "int") (gD X.kw jh):=by
 intro pins s σ H xs us Q I r q
 obtain⟨ι,g,ds,d,g',G0,r1,q,p⟩:=q
 unfold jh at q
 split at q
 . cases q
   simp only [ag,Rel] at r1
   obtain⟨_,_,rfl,rfl,rfl⟩:=r1
   exact ma pins s σ H _ us Q I r (.inl ⟨_,rfl,p H ι _ Ext.refl G0 (by simp [Rel])⟩)
 . cases q
   simp only [ag,Rel] at r1
   obtain⟨_,_,rfl,rfl,rfl⟩:=r1
   exact ma pins s σ H _ us Q I r (.inr ⟨_,rfl,p H ι _ Ext.refl G0 (by simp [Rel])⟩)
 . cases q
def eH (ds:List D)(g:G):Option (D×G):=match ds with | [d]=>(cf d g).bind fun xs=>if aD xs.length=true then some (.tup xs,g) else none | _=>none
theorem Cv:ck X (.type "tuple") (gD X.kw eH):=by
 intro pins s σ H xs us Q I r q
 obtain⟨ι,g,ds,d,g',G0,r1,q,p⟩:=q
 cases ds with
 | nil=>cases q
 | cons e dsr =>
 cases dsr with
 | cons _ _=>cases q
 | nil =>
  simp only [eH] at q
  obtain⟨ys,hx,q⟩:=bind_some q
  split at q
  . rename_i z
    cases q
    simp only [ag] at r1
    obtain⟨v,_,rfl,rv,rfl⟩:=r1
    cases e with
    | tup zs =>
     cases hx
     simp only [Rel] at rv
     obtain⟨a,vs,rfl,hq,hr⟩:=rv
     exact iI pins s σ H _ us Q I r ⟨a,vs,rfl,.inr ⟨hq.sq,p H ι _ Ext.refl G0 (by simp only [Rel];exact⟨a,vs,rfl,hq,hr⟩)⟩⟩
    | _ =>
     obtain⟨a,vs,rfl,hq,hr⟩:=gF G0 rv hx
     have hql:cw X.kw H a vs:=by
      rcases hq with hq | hq
      . exact hq
      . exfalso
        first
         | (cases hx;done)
         | (simp only [Rel] at rv;obtain⟨a',vs',e1,hq',_⟩:=rv;cases e1;exact jF I hq hq'.sq)
         | (simp only [Rel] at rv;obtain⟨a',e1,ha⟩:=rv;cases e1;obtain⟨ws,h1,h2⟩:=G0.at hx ha;exact jF I hq (.of h1))
     refine iI pins s σ H _ us Q I r ⟨a,vs,rfl,.inl ⟨hql,fun l hl=>p _ _ _ (Ext.lay hl) (G0.lay hl) ?_⟩⟩
     simp only [Rel]
     exact⟨l,vs,rfl,.inl ⟨.inl aR,G0.fresh hl⟩,ag.ext (Ext.lay hl) _ hr⟩
  . cases q
end
section
variable {X:Cx}
inductive Ty | int | bool | str | tuple | list | dict
def Ty.name:Ty->String
 | .int=>"int" | .bool=>"bool" | .str=>"str" | .tuple=>"tuple" | .list=>"list" | .dict=>"dict"
def eu:Ty->D->Bool
 | .int,.int _=>true | .int,.bl _=>true | .bool,.bl _=>true | .str,.str _=>true
 | .tuple,.tup _=>true | .list,.lst _=>true | .list,.ref _=>true | .dict,.edc=>true | .dict,.aQ _=>true
 | _,_=>false
def isFn:D->Bool
 | .fn _=>true
 | _=>false
def eE (T:Ty)(f:FE):FE:=fun σ g=>(f σ g).bind fun r=>if isFn r.1=true then none else some (.bl (eu T r.1),r.2)
theorem isi_call {pins:List (Addr×Obj)}{s:Shared}{σ:L2.St}{H:Hp}{ι:Ix}{g:G}{d:D}{x:V}{u:Value}{Q:Value->Shared->Prop}(T:Ty)(I:Inv X pins σ H s)(G0:au X.kw H ι g)(r:Rel X.kw H ι d x)(hd:isFn d=false)(ru:RelV x u)(h:∀tk,Q (.bool (eu T d)) { s with toks:=tk }) :
  wpAny (model X.prog X.w) X.A (call (.builtin "isinstance") [u,.type T.name]) Q X.xe s:=by
 cases d with
 | non=>simp only [Rel] at r;subst r;cases ru;exact PySem.W.kia_one PySem.W.kitx_none I.fN True.intro (b:=eu T .non) (by cases T<;>rfl) (fun z=>nomatch z) h
 | bl b=>simp only [Rel] at r;subst r;cases ru;exact PySem.W.kia_one PySem.W.kitx_bool I.fN True.intro (b:=eu T (.bl b)) (by cases T<;>rfl) (fun z=>nomatch z) h
 | int b=>simp only [Rel] at r;subst r;obtain⟨t,rfl⟩:=ru;exact PySem.W.kia_one PySem.W.kitx_int I.fN True.intro (b:=eu T (.int b)) (by cases T<;>rfl) (fun z=>nomatch z) h
 | str b=>simp only [Rel] at r;subst r;obtain⟨t,rfl⟩:=ru;exact PySem.W.kia_one PySem.W.kitx_str I.fN True.intro (b:=eu T (.str b)) (by cases T<;>rfl) (fun z=>nomatch z) h
 | tup xs =>
  simp only [Rel] at r;obtain⟨a,vs,rfl,hq,hr⟩:=r;cases ru
  obtain⟨its,_,⟨o,h1,h2,_⟩,_⟩:=I.tuple hq.sq
  exact PySem.W.kia_one PySem.W.kitx_tuple I.fN ⟨o,h1,h2⟩ (b:=eu T (.tup xs)) (by cases T<;>rfl) (fun z=>nomatch z) h
 | lst xs =>
  simp only [Rel] at r;obtain⟨a,vs,rfl,hq,hr⟩:=r;cases ru
  obtain⟨its,_,⟨o,n,h1,h2,_⟩,_⟩:=I.list hq.sq
  exact PySem.W.kia_one PySem.W.kitx_list I.fN ⟨o,h1,h2⟩ (b:=eu T (.lst xs)) (by cases T<;>rfl) (fun z=>nomatch z) h
 | ref n =>
  simp only [Rel] at r;obtain⟨a,rfl,ha⟩:=r;cases ru
  have hi:n<g.length:=by rw [<- G0.len];exact(List.getElem?_eq_some_iff.mp ha.1).1
  obtain⟨vs,h1,h2⟩:=G0.at (List.getElem?_eq_getElem hi) ha
  obtain⟨its,_,⟨o,n,h1,h2,_⟩,_⟩:=I.list (cw.of h1)
  exact PySem.W.kia_one PySem.W.kitx_list I.fN ⟨o,h1,h2⟩ (b:=true&&eu T (.lst [])) (by cases T<;>rfl) (fun z=>nomatch z) (by cases T<;>exact h)
 | edc =>
  simp only [Rel] at r;obtain⟨a,rfl,ha,_⟩:=r;cases ru
  obtain⟨_,_,vs,_,p⟩:=(show cD X.prog X.w H s.heap a (.dK []) from I.hok a _ ha)
  obtain⟨o,es,ep,h1,h2,_⟩:=p
  exact PySem.W.kia_one PySem.W.kitx_dict I.fN ⟨o,h1,h2.1⟩ (b:=eu T .edc) (by cases T<;>rfl) (fun z=>nomatch z) h
 | aQ n =>
  simp only [Rel] at r;obtain⟨a,rfl,ha⟩:=r;cases ru
  have hi:n<g.length:=by rw [<- G0.len];exact(List.getElem?_eq_some_iff.mp ha.1).1
  obtain⟨es,vs,c,h1,_⟩:=G0.nz (List.getElem?_eq_getElem hi) ha
  have h2:=((show cD X.prog X.w H s.heap a (dO a es c) from I.hok a _ h1)).1
  exact PySem.W.kia_one PySem.W.kitx_dict I.fN ⟨_,h2,rfl⟩ (b:=eu T (.aQ n)) (by cases T<;>rfl) (fun z=>nomatch z) h
 | fn y=>cases hd
theorem BL {a:Expr}{fa:FE}{p p2 pos:Pos}(T:Ty)(hm:X.mg "isinstance" = none)(hmT:X.mg (Str.ofString T.name)=none)(ha:DE X a fa)(hg:Gl X "isinstance":=by rfl)(hgT:Gl X (Str.ofString T.name):=by rfl)
   (hs1:starEach [a,.Name (Str.ofString T.name) p2] X.env=(false,eval a X.env)::starEach [.Name (Str.ofString T.name) p2] X.env:=by rfl):DE X (.Call (.Name "isinstance" p) [a,.Name (Str.ofString T.name) p2] [] pos) (eE T fa):=.of (by
 have hT:bootBuiltins (Str.ofString T.name)=some (.type T.name):=by
   cases T
   . exact PyProof.Rows.boot_int
   . exact PyProof.Rows.boot_bool
   . exact PyProof.Rows.boot_str
   . exact PyProof.Rows.boot_tuple
   . exact PyProof.Rows.boot_list
   . exact PyProof.Rows.boot_dict
 have hc:ck X (.builtin "isinstance") (fun xs H Q=>∃x ι g d,xs = [x,.ty T.name]/\au X.kw H ι g/\Rel X.kw H ι d x/\isFn d=false/\Q (.bl (eu T d)) H):=by
   intro pins s σ H xs us Q I r q
   obtain⟨x,ι,g,d,rfl,G0,rd,nf,q⟩:=q
   obtain⟨u,w',rfl,ru,rt⟩:=vals2 r
   cases rt
   exact isi_call T I G0 rd nf ru fun tk=>⟨.bl _,H,I.tok _,rfl,q⟩
 refine PE.imp (nt hc hg hm PyProof.Rows.boot_isinstance (e_ ha.un (e_ (yt (v:=.ty T.name) hgT hmT hT rfl (by cases T<;>decide) (by cases T<;>decide)) jf (by rfl)) hs1) (by decide) (by decide) hs1) fun σ H Q h=>?_
 obtain⟨ι,σd,g,d,g',G0,S0,h,p⟩:=h
 obtain⟨⟨d1,g1⟩,h1,h⟩:=bind_some h
 dsimp only at h
 split at h
 . cases h
 rename_i nf
 cases h
 exact tD.bind G0 S0 h1 fun H1 ι1 v e1 G1 S1 r1=>⟨v,ι1,g',d1,rfl,G1,r1,by simpa using nf,p H1 ι1 _ e1 G1 (by simp [Rel])⟩)
def bools:List D->Option (List Bool)
 | []=>some []
 | .bl b::ds=>(bools ds).map (b :: ·)
 | _=>none
def dw (ds:List D)(g:G):Option (D×G):=match ds with | [.lst xs]=>(bools xs).map fun bs=>(.bl (bs.all id),g) | _=>none
theorem iZ {K H ι}:∀{xs:List D} {vs:List V} {us:List Value} {bs:List Bool},bools xs=some bs->ag K H ι xs vs->Vals vs us->us=bs.map Value.bool
 | [],vs,us,bs,hb,r,rv=>by simp only [ag] at r;subst r;cases rv;cases hb;rfl
 | .bl b::ds,vs,us,bs,hb,r,rv=>by
  simp only [ag,Rel] at r
  obtain⟨v,vr,rfl,rfl,hr⟩:=r
  cases rv with
  | cons r0 rr =>
   cases r0
   simp only [bools] at hb
   cases hb':bools ds with
   | none=>rw [hb'] at hb;cases hb
   | some bs' =>
    rw [hb'] at hb;cases hb
    rw [iZ hb' hr rr];rfl
 | .non::ds,_,_,_,hb,_,_=>by simp [bools] at hb
 | .int _::ds,_,_,_,hb,_,_=>by simp [bools] at hb
 | .str _::ds,_,_,_,hb,_,_=>by simp [bools] at hb
 | .tup _::ds,_,_,_,hb,_,_=>by simp [bools] at hb
 | .lst _::ds,_,_,_,hb,_,_=>by simp [bools] at hb
 | .edc::ds,_,_,_,hb,_,_=>by simp [bools] at hb
 | .ref _::ds,_,_,_,hb,_,_=>by simp [bools] at hb
theorem kS {s:Shared}{h':Heap}{o:Obj}(hk:∀b x,b ∉ [s.heap.objs.size]->(s.heap.push o).get? b=some x->h'.get? b=some x):∀b x,s.heap.get? b=some x->h'.get? b=some x :=
 fun b x e=>hk b x (fun hm=>by rw [List.mem_singleton.mp hm] at e;exact Nat.lt_irrefl _ (Heap.lt_size e)) (Heap.get?_push_of_some _ e)
theorem q_ (bs:List Bool):((List.range bs.length).all fun i=>(bs[i]?).getD true)=bs.all id:=by
 rw [Bool.eq_iff_iff]
 simp only [List.all_eq_true,List.mem_range,id_eq]
 constructor
 . intro h x hx
   obtain⟨i,hi,e⟩:=List.mem_iff_getElem.mp hx
   have:=h i hi
   rw [List.getElem?_eq_getElem hi,e] at this
   simpa using this
 . intro h i hi
   rw [List.getElem?_eq_getElem hi]
   exact h _ (List.getElem_mem hi)
theorem qI (bs:List Bool):((List.range bs.length).any fun i=>(bs[i]?).getD false)=bs.any id:=by
 rw [Bool.eq_iff_iff]
 simp only [List.any_eq_true,List.mem_range,id_eq]
 constructor
 . rintro⟨i,hi,h⟩
   rw [List.getElem?_eq_getElem hi] at h
   exact⟨_,List.getElem_mem hi,by simpa using h⟩
 . rintro⟨x,hx,h⟩
   obtain⟨i,hi,e⟩:=List.mem_iff_getElem.mp hx
   exact⟨i,hi,by rw [List.getElem?_eq_getElem hi,e];simpa using h⟩
theorem C6 (hc:X.calm=true):ck X (.builtin "all") (gD X.kw dw):=by
 intro pins s σ H xs us Q I r q
 obtain⟨ι,g,ds,d,g',G0,r1,q,p⟩:=q
 unfold dw at q
 split at q
 . rename_i ys
   cases hb:bools ys with
   | none=>rw [hb] at q;cases q
   | some bs =>
    rw [hb] at q;cases q
    simp only [ag,Rel] at r1
    obtain⟨_,_,rfl,⟨a,vs,rfl,hq,hr⟩,rfl⟩:=r1
    obtain⟨u,rfl,ru⟩:=vals1 r
    cases ru
    obtain⟨its,rits,pl,hz⟩:=I.list hq.sq
    have e0:=iZ hb hr rits
    subst e0
    have hl:=pl.isList
    have hlt:a<s.heap.objs.size:=by obtain⟨_,e,_⟩:=hl;exact Heap.lt_size e
    refine call_all_walk (wpAny_pyIter_list hl ?_)
    refine⟨s.heap.objs.size,[s.heap.objs.size,a],[s.heap.objs.size],_,_,_,fun i=>(bs[i]?).getD true,rfl,Walks.list (A:=X.A.in1) (I.ok.hd hc) _ a (Nat.ne_of_lt hlt) _,
      ⟨⟨_,Heap.get?_push_size _ rfl,rfl,rfl⟩,hl.push _⟩,fun i v s' Q' E' hP hQ=>?_,fun h' tk hk=>?_⟩
    . have hP':(bs.map Value.bool)[i]? = some v:=by simpa using hP
      rw [List.getElem?_map] at hP'
      cases e:bs[i]? with
      | none=>rw [e] at hP';cases hP'
      | some b =>
       rw [e] at hP';cases hP'
       dsimp only at hQ
       rw [e] at hQ
       exact wpAny_truthy_bool hQ
    . have e:((List.range (bs.map Value.bool).toArray.size).all fun i=>(bs[i]?).getD true)=bs.all id:=by
       rw [List.size_toArray,List.length_map];exact q_ bs
      rw [e]
      exact⟨.bl _,H,I.kept (kS hk),rfl,p H ι _ Ext.refl G0 (by simp [Rel])⟩
 . cases q
end
end L3
namespace L3
open PySem PySem.Spec PyProof.Rows L2
open Sem (wp)
open Builtin
theorem tuple_addW0 (l b:Addr)(items items2:Array Value)(n n2:Nat)(dd dd2:Option Addr)(sl sl2:Array (Option Value))(hc0:items.isEmpty=true) :
  Meets (Builtin.«tuple.__add__» ⟨[.ref l,.ref b],[]⟩) (fun _ R s=>s.heap.get? l=some { cls:=.type "tuple",dict:=dd,data:=.seq items n,slots:=sl }/\s.heap.get? b=some { cls:=.type "tuple",dict:=dd2,data:=.seq items2 n2,slots:=sl2 }/\R (.ok (.ret (Value.ref b))) { s with heap:=s.heap,toks:=s.toks }) :=
 .of_wp fun prog w A R s h=>by obtain⟨hp,g,d,tk,os⟩:=s;obtain⟨hl,hb,h⟩:=h;have f1:=AutoSeq1.idx_int;have f2:=AutoSeq1.sub_tuple_tuple;have f3:=AutoSeq1.sub_list_list;have f4:=AutoSeq1.sub_tuple_list;have f5:=AutoSeq1.sub_list_tuple;wp_walk using AutoSeq1.wpAny_loadPart' hl,AutoSeq1.wpAny_loadPart' hb;exact⟨_,rfl,h⟩
theorem jY:fillsNumberSlot (.type "tuple") "mul" = pure false :=
 PySem.fillsNumberSlot_seq (id:="tuple.__mul__") (r:=some (.builtin "tuple.__rmul__")) F.slot_tuple_mul.lookup (by decide +kernel) F.slot_tuple_rmul.lookup (by decide +kernel)
theorem nR:seqRepeat? (.type "tuple")=pure (some (.builtin "tuple.__mul__")):=by
 unfold seqRepeat?
 rw [PySem.seqSlot_of (T:="tuple") (name:="__mul__") (id:="tuple.__mul__") F.slot_tuple_mul.lookup (by decide +kernel),PySem.seqSlot_of (T:="tuple") (name:="__rmul__") (id:="tuple.__rmul__") F.slot_tuple_rmul.lookup (by decide +kernel)]
 rfl
theorem lF (a:Int)(t:Tok)(l:Addr)(items:Array Value)(n:Nat)(dd:Option Addr)(sl:Array (Option Value)) :
  Meets (Builtin.«int.__rmul__» ⟨[.int a t,.ref l],[]⟩) (fun _ R s=>s.heap.get? l=some { cls:=.type "tuple",dict:=dd,data:=.seq items n,slots:=sl }/\R (.ok (.ret Value.notImplemented)) s) :=
 .of_wp fun prog w A R s h=>by obtain⟨hp,g,d,tk,os⟩:=s;obtain⟨hl,h⟩:=h;wp_walk;exact⟨_,rfl,h⟩
theorem rK (l:Addr)(items:Array Value)(n:Nat)(dd:Option Addr)(sl:Array (Option Value))(x:Int)(u:Tok)(h0:¬(decide (x < -(2 ^ 63))||decide (x>=2 ^ 63))=true)(h1:¬(items.isEmpty||x == 1)=true)(h2:¬(decide (x<=0)||items.isEmpty)=true)
  (h3:¬(items.size:Int)*x>(2 ^ 63-1) / 8) (h4:¬Builtin.Tuple.tupleTooMany ((items.size:Int)*x)=true) (hsz:((List.replicate x.toNat items).foldl (· ++ ·) #[]).size<=sizeLine) :
  Meets (Builtin.«tuple.__mul__» ⟨[.ref l,.int x u],[]⟩) (fun _ R s=>s.heap.get? l=some { cls:=.type "tuple",dict:=dd,data:=.seq items n,slots:=sl }/\R (.ok (.ret (Value.ref s.heap.objs.size))) { s with heap:=s.heap.push { cls:=Value.type "tuple",data:=Data.seq ((List.replicate x.toNat items).foldl (· ++ ·) #[]) },toks:=s.toks }) :=
 .of_wp fun prog w A R s h=>by
  obtain⟨hp,g,d,tk,os⟩:=s;obtain⟨hl,h⟩:=h
  have f1:=AutoSeq1.idx_int;have f2:=AutoSeq1.sub_tuple_tuple
  wp_walk using AutoSeq1.wpAny_loadPart' hl
  refine wpAny_ite_false (decide_eq_false h0) ?_
  wp_walk using AutoSeq1.wpAny_loadPart' hl
  refine wpAny_ite_false (decide_eq_false h3) ?_
  wp_walk using AutoSeq1.wpAny_loadPart' hl
  exact⟨_,rfl,h⟩
theorem ph (l:Addr)(items:Array Value)(n:Nat)(dd:Option Addr)(sl:Array (Option Value))(x:Int)(u:Tok)(h0:¬(decide (x < -(2 ^ 63))||decide (x>=2 ^ 63))=true)(h1:(items.isEmpty||x == 1)=true) :
  Meets (Builtin.«tuple.__mul__» ⟨[.ref l,.int x u],[]⟩) (fun _ R s=>s.heap.get? l=some { cls:=.type "tuple",dict:=dd,data:=.seq items n,slots:=sl }/\R (.ok (.ret (Value.ref l))) { s with heap:=s.heap,toks:=s.toks }) :=
 .of_wp fun prog w A R s h=>by
  obtain⟨hp,g,d,tk,os⟩:=s;obtain⟨hl,h⟩:=h
  have f1:=AutoSeq1.idx_int;have f2:=AutoSeq1.sub_tuple_tuple
  wp_walk using AutoSeq1.wpAny_loadPart' hl
  refine wpAny_ite_false (decide_eq_false h0) ?_
  wp_walk using AutoSeq1.wpAny_loadPart' hl
  exact⟨_,rfl,h⟩
theorem oZ (l:Addr)(items:Array Value)(n:Nat)(dd:Option Addr)(sl:Array (Option Value))(x:Int)(u:Tok)(h0:¬(decide (x < -(2 ^ 63))||decide (x>=2 ^ 63))=true)(h1:¬(items.isEmpty||x == 1)=true)(h2:(decide (x<=0)||items.isEmpty)=true) :
  Meets (Builtin.«tuple.__mul__» ⟨[.ref l,.int x u],[]⟩) (fun _ R s=>s.heap.get? l=some { cls:=.type "tuple",dict:=dd,data:=.seq items n,slots:=sl }/\R (.ok (.ret (Value.ref s.heap.objs.size))) { s with heap:=s.heap.push { cls:=Value.type "tuple",data:=Data.seq #[] },toks:=s.toks }) :=
 .of_wp fun prog w A R s h=>by
  obtain⟨hp,g,d,tk,os⟩:=s;obtain⟨hl,h⟩:=h
  have f1:=AutoSeq1.idx_int;have f2:=AutoSeq1.sub_tuple_tuple
  wp_walk using AutoSeq1.wpAny_loadPart' hl
  refine wpAny_ite_false (decide_eq_false h0) ?_
  wp_walk using AutoSeq1.wpAny_loadPart' hl
  exact⟨_,rfl,h⟩
section
variable {X:Cx}
def Ed (K:KW):R2:=fun x y H Q=>∃a k xs,x = .ref a/\y = .int k/\cq K H a xs /\ -(2 ^ 63)<=k/\k<2 ^ 63/\xs.length*k.toNat<=16777216 /\
 ((xs = []\/k=1)->Q (.ref a) H)/\(xs ≠ []->k<=0->∀p,H p=none->Q (.ref p) (upd H p (.tup [])))/\(xs ≠ []->2<=k->∀p,H p=none->Q (.ref p) (upd H p (.tup (List.replicate k.toNat xs).flatten)))
theorem zd:aT X (binaryOp .Mult) (Ed X.kw):=by
 intro pins s σ H x y v u Q I rx ry h
 obtain⟨a,k,xs,rfl,rfl,hq,h1,h2,hz,q1,q0,q2⟩:=h
 cases rx
 obtain⟨t,rfl⟩:=ry
 obtain⟨its,r,ht,hzz⟩:=I.tuple hq
 have hl:=r.length
 obtain⟨⟨cls,dd,data,sl⟩,ho,hc,n,hd⟩:=id ht
 simp only at hc hd
 subst hc hd
 have hk:¬(decide (k < -(2 ^ 63))||decide (k>=2 ^ 63))=true:=by
   rw [Bool.or_eq_true,decide_eq_true_eq,decide_eq_true_eq]
   omega
 refine wpAny_binaryOp_repeat_ref (T:="tuple") (U:="int") (by decide) ⟨_,ho,rfl⟩ (fun s'=>typeIs_int s' k t) jY F.fills_int_mul F.slot_int_rmul nR F.slot_int_index.lookup
   (call_meets F.slot_int_rmul (typeIs_int s k t) F.entry_int_rmul (F.args_int_rmul_2 _ _) (lF k t a its.toArray n dd sl) ⟨ho,rfl,⟨_,ho,rfl⟩,?_⟩)
 by_cases c1:xs = []\/k=1
 . refine call_meets F.slot_tuple_mul ⟨_,ho,rfl⟩ F.entry_tuple_mul (F.args_tuple_mul_2 _ _) (ph a its.toArray n dd sl k t hk ?_) ⟨ho,.ref a,H,I,rfl,q1 c1⟩
   rcases c1 with c1 | c1
   . subst c1
     cases r
     simp
   . subst c1;simp
 . have hx:xs ≠ []:=fun e=>c1 (.inl e)
   have hk1:k≠1:=fun e=>c1 (.inr e)
   have hi:its ≠ []:=fun e=>hx (by subst e;cases r;rfl)
   have n1:¬(its.toArray.isEmpty||k == 1)=true:=by simp [hi,hk1]
   have fresh:H s.heap.objs.size=none:=I.hok.fresh (Nat.le_refl _)
   by_cases c0:k<=0
   . refine call_meets F.slot_tuple_mul ⟨_,ho,rfl⟩ F.entry_tuple_mul (F.args_tuple_mul_2 _ _) (oZ a its.toArray n dd sl k t hk n1 (by simp [c0])) ⟨ho,?_⟩
     refine⟨.ref _,_,I.laid (t':=s.toks) (fun b u e=>Heap.get?_push_of_some _ e) (Nat.le_refl _) ?_,rfl,q0 hx c0 _ fresh⟩
     exact⟨Nat.zero_le _,[],.nil,⟨_,Heap.get?_push_size _ rfl,rfl,⟨_,rfl⟩,rfl⟩⟩
   . have hnew:List.foldl (fun x1 x2=>x1++x2) #[] (List.replicate k.toNat its.toArray)=(List.replicate k.toNat its).flatten.toArray:=by
       have:=foldl_rep its k.toNat []
       rw [List.nil_append] at this
       exact this
     have hs:sizeLine=16777216:=sizeLine_eq
     have hsz:(its.length:Int)*k<=16777216:=by
       have e1:((xs.length*k.toNat:Nat):Int)<=16777216:=Int.ofNat_le.mpr hz
       rw [Int.natCast_mul,Int.toNat_of_nonneg (by omega),hl] at e1
       exact e1
     refine call_meets F.slot_tuple_mul ⟨_,ho,rfl⟩ F.entry_tuple_mul (F.args_tuple_mul_2 _ _) (rK a its.toArray n dd sl k t hk n1 (by simp [c0,hi]) (by rw [List.size_toArray];omega) ?_ ?_) ⟨ho,?_⟩
     . rw [List.size_toArray]
       unfold Tuple.tupleTooMany
       simp
       omega
     . rw [hnew,List.size_toArray,len_rep,<- hl,Nat.mul_comm,hs];exact hz
     . rw [hnew]
       refine⟨.ref _,_,I.laid (t':=s.toks) (fun b u e=>Heap.get?_push_of_some _ e) (Nat.le_refl _) ?_,rfl,q2 hx (by omega) _ fresh⟩
       exact⟨by rw [len_rep,Nat.mul_comm,hs];exact hz,_,r.rep k.toNat,⟨_,Heap.get?_push_size _ rfl,rfl,⟨_,rfl⟩,rfl⟩⟩
theorem ag.rep {K H ι}{xs:List D}{vs:List V}(r:ag K H ι xs vs):∀k:Nat,ag K H ι (List.replicate k xs).flatten (List.replicate k vs).flatten
 | 0=>by simp [ag]
 | k+1=>by
  rw [List.replicate_succ,List.replicate_succ,List.flatten_cons,List.flatten_cons]
  exact ag.append r (ag.rep r k)
def bS (d1 d2:D)(g:G):Option (D×G):=match d1,d2 with
 | .int i,.int j=>if cR i j=true then some (.int (i*j),g) else none
 | .tup xs,.int k=>if(da k&&aD (xs.length*k.toNat))=true then some (.tup (List.replicate k.toNat xs).flatten,g) else none
 | _,_=>none
theorem AY:aT X (binaryOp .Mult) (bU X.kw bS):=by
 intro pins s σ H x y v u Q I rx ry q
 obtain⟨ι,g,d1,d2,d,g',G0,r1,r2,q,p⟩:=q
 unfold bS at q
 split at q
 . split at q
   . rename_i i j z
     exact x8 pins s σ H x y v u Q I rx ry ⟨ι,g,.int i,.int j,d,g',G0,r1,r2,by simp only [aK];rw [if_pos z];exact q,p⟩
   . cases q
 . split at q
   . rename_i xs k z
     simp only [Bool.and_eq_true] at z
     have z1:=da.and z.1
     have z2:=aD.le z.2
     cases q
     simp only [Rel] at r1 r2
     obtain⟨a,vs,rfl,hq,hr⟩:=r1
     subst r2
     have hl:=hr.length
     have new:∀{zs:List D} {ws:List V},ag X.kw H ι zs ws->zs=(List.replicate k.toNat xs).flatten->∀q,H q=none->Q (.ref q) (upd H q (.tup ws)):=fun {zs ws} rz ez q hq'=>by
       subst ez
       refine p _ _ _ (Ext.lay hq') (G0.lay hq') ?_
       simp only [Rel]
       exact⟨q,ws,rfl,.inl ⟨.inl aR,G0.fresh hq'⟩,ag.ext (Ext.lay hq') _ rz⟩
     refine zd pins s σ H _ _ v u Q I rx ry ⟨a,k,vs,rfl,rfl,hq.sq,(by omega),(by omega),by rw [<- hl];exact z2,fun c=>?_,fun hx hk=>?_,fun hx hk=>?_⟩
     . refine p H ι _ Ext.refl G0 ?_
       simp only [Rel]
       refine⟨a,vs,rfl,hq,?_⟩
       rcases c with c | c
       . subst c
         have:xs = []:=List.eq_nil_of_length_eq_zero (by simpa using hl)
         subst this
         have e0:(List.replicate k.toNat ([]:List D)).flatten = []:=by simp
         rw [e0];exact hr
       . subst c
         have e0:(List.replicate (1:Int).toNat xs).flatten=xs:=by simp
         rw [e0];exact hr
     . refine new (zs:=[]) (by simp [ag]) ?_
       have:k.toNat=0:=by omega
       rw [this];simp
     . exact new (hr.rep k.toNat) rfl
   . cases q
 . cases q
theorem uV:aT X (binaryOp .Add) (fun x y H Q=>∃a b ys,x = .ref a/\y = .ref b/\cq X.kw H a []/\cq X.kw H b ys/\Q (.ref b) H):=by
 intro pins s σ H x y v u Q I rx ry h
 obtain⟨a,b,ys,rfl,rfl,ha,hb,q⟩:=h
 cases rx
 cases ry
 obtain⟨its,r1,p1,_⟩:=I.tuple ha
 obtain⟨its2,r2,p2,_⟩:=I.tuple hb
 obtain⟨⟨cls,dd,data,sl⟩,ho,hc,n,hd⟩:=id p1
 obtain⟨⟨cls2,dd2,data2,sl2⟩,ho2,hc2,n2,hd2⟩:=id p2
 simp only at hc hd hc2 hd2
 subst hc hd hc2 hd2
 exact concat_meets ⟨_,ho,rfl⟩ ⟨_,ho2,rfl⟩ noFill_tuple_add seq_tuple_add PySem.F.slot_tuple_add PySem.F.entry_tuple_add (PySem.F.args_tuple_add_2 _ _)
  (tuple_addW0 a b its.toArray its2.toArray n n2 dd dd2 sl sl2 (by cases r1;simp)) ⟨ho,ho2,.ref b,H,I,rfl,q⟩
theorem yK:aT X (binaryOp .Add) (fun x y H Q=>∃a b xs ys,x = .ref a/\y = .ref b/\cw X.kw H a xs/\cw X.kw H b ys/\xs.length+ys.length<=sizeLine /\ ∀p,H p=none->Q (.ref p) (upd H p (.lst (xs++ys)))):=by
 intro pins s σ H x y v u Q I rx ry h
 obtain⟨a,b,xs,ys,rfl,rfl,ha,hb,hz,q⟩:=h
 cases rx
 cases ry
 obtain⟨its,r1,p1,_⟩:=I.list ha
 obtain⟨its2,r2,p2,_⟩:=I.list hb
 obtain⟨⟨cls,dd,data,sl⟩,n,ho,hc,hdd,hd⟩:=id p1
 obtain⟨⟨cls2,dd2,data2,sl2⟩,n2,ho2,hc2,hdd2,hd2⟩:=id p2
 simp only at hc hd hc2 hd2 hdd hdd2
 subst hc hd hc2 hd2 hdd hdd2
 have e:its.toArray++its2.toArray=(its++its2).toArray:=by simp
 have hl:its.length+its2.length<=sizeLine:=by rw [<- r1.length,<- r2.length];exact hz
 refine concat_meets ⟨_,ho,rfl⟩ ⟨_,ho2,rfl⟩ noFill_list_add seq_list_add PySem.F.slot_list_add PySem.F.entry_list_add (PySem.F.args_list_add_2 _ _) (list_addW a b its.toArray its2.toArray n n2 none none sl sl2 (by simpa using hl)) ⟨ho,ho2,?_⟩
 rw [e]
 exact⟨.ref _,_,I.Gu (t':=s.toks) (r1.append r2) (by rw [List.length_append];exact hz),rfl,q _ I.fresh⟩
def gH (d:D)(g:G):Option (List D):=match d with
 | .lst xs=>some xs
 | .ref n=>g[n]?
 | _=>none
theorem gy {K H ι g d v xs}(G0:au K H ι g)(r:Rel K H ι d v)(h:gH d g=some xs):∃a vs,v = .ref a/\cw K H a vs/\ag K H ι xs vs:=by
 cases d with
 | lst ys =>
  cases h
  simp only [Rel] at r
  obtain⟨a,vs,rfl,hq,hr⟩:=r
  exact⟨a,vs,rfl,hq.sq,hr⟩
 | ref n =>
  simp only [Rel] at r
  obtain⟨a,rfl,ha⟩:=r
  obtain⟨vs,h1,h2⟩:=G0.at h ha
  exact⟨a,vs,rfl,.of h1,h2⟩
 | _=>cases h
def aM (d1 d2:D)(g:G):Option (D×G):=match d1,d2 with
 | .int i,.int j=>some (.int (i+j),g)
 | .tup xs,.tup ys=>if aD (xs.length+ys.length)=true then some (.tup (xs++ys),g) else none
 | .str i,.str j=>if aD (i.length+j.length)=true then some (.str (i++j),g) else none
 | d1,d2=>match gH d1 g,gH d2 g with
  | some xs,some ys=>if aD (xs.length+ys.length)=true then some (.lst (xs++ys),g) else none
  | _,_=>none
theorem BK:aT X (binaryOp .Add) (bU X.kw aM):=by
 intro pins s σ H x y v u Q I rx ry q
 obtain⟨ι,g,d1,d2,d,g',G0,r1,r2,q,p⟩:=q
 unfold aM at q
 split at q
 . rename_i i j
   exact zh pins s σ H x y v u Q I rx ry ⟨ι,g,.int i,.int j,d,g',G0,r1,r2,q,p⟩
 . split at q
   . rename_i xs ys z
     cases q
     simp only [Rel] at r1 r2
     obtain⟨a,vs,rfl,hq,hr⟩:=r1
     obtain⟨b,ws,rfl,hq2,hr2⟩:=r2
     by_cases hx:vs = []
     . subst hx
       have:xs = []:=List.eq_nil_of_length_eq_zero (by simpa using hr.length)
       subst this
       refine uV pins s σ H _ _ v u Q I rx ry ⟨a,b,ws,rfl,rfl,hq.sq,hq2.sq,p H ι _ Ext.refl G0 ?_⟩
       simp only [Rel,List.nil_append]
       exact⟨b,ws,rfl,hq2,hr2⟩
     . refine zq pins s σ H _ _ v u Q I rx ry ⟨a,b,vs,ws,rfl,rfl,hq.sq,hq2.sq,hx,by rw [<- hr.length,<- hr2.length];exact aD.le z,fun e=>?_,fun e q' hq'=>?_⟩
       . subst e
         have:ys = []:=List.eq_nil_of_length_eq_zero (by simpa using hr2.length)
         subst this
         refine p H ι _ Ext.refl G0 ?_
         simp only [Rel,List.append_nil]
         exact⟨a,vs,rfl,hq,hr⟩
       . refine p _ _ _ (Ext.lay hq') (G0.lay hq') ?_
         simp only [Rel]
         exact⟨q',_,rfl,.inl ⟨.inl aR,G0.fresh hq'⟩,ag.ext (Ext.lay hq') _ (ag.append hr hr2)⟩
   . cases q
 . split at q
   . rename_i x1 y1 z
     cases q
     simp only [Rel] at r1 r2
     subst r1 r2
     exact qN pins s σ H _ _ v u Q I rx ry ⟨x1,y1,rfl,rfl,aD.le z,p H ι _ Ext.refl G0 (by simp [Rel])⟩
   . cases q
 . split at q
   . rename_i xs ys e1 e2
     split at q
     . rename_i z
       cases q
       obtain⟨a,vs,rfl,hq,hr⟩:=gy G0 r1 e1
       obtain⟨b,ws,rfl,hq2,hr2⟩:=gy G0 r2 e2
       refine yK pins s σ H _ _ v u Q I rx ry ⟨a,b,vs,ws,rfl,rfl,hq,hq2,by rw [<- hr.length,<- hr2.length];exact aD.le z,fun q' hq'=>?_⟩
       refine p _ _ _ (Ext.lay hq') (G0.lay hq') ?_
       simp only [Rel]
       exact⟨q',_,rfl,.inl ⟨.inl aR,G0.fresh hq',G0.gW hq'⟩,ag.ext (Ext.lay hq') _ (ag.append hr hr2)⟩
     . cases q
   . cases q
abbrev FO:=Sg->G->Option (Option Int×G)
inductive E4 (K:KW)(f:FO)(σ:L2.St)(H:Hp)(Q:(Option Int->Hp->Prop)):Prop
 | mk (ι:Ix) (σd:Sg) (g:G) (o:Option Int) (g':G) (h0:au K H ι g) (h1:aS K H ι σd σ) (h2:f σd g=some (o,g')) (h3:ka K H ι g' (Q o)):E4 K f σ H Q
structure DO (X:Cx)(e:Option Expr)(f:FO):Prop where of ::
 un:PO X e (E4 X.kw f)
theorem PO.imp {X:Cx}{e:Option Expr}{t t':TO}(h:PO X e t)(i:∀σ H Q,t' σ H Q->t σ H Q):PO X e t':=fun pins s σ H Q I q=>h pins s σ H Q I (i σ H Q q)
def cA:FO:=fun _ g=>some (none,g)
def bQ (f:FE):FO:=fun σ g=>(f σ g).bind fun r=>match r.1 with | .int i=>some (some i,r.2) | _=>none
theorem zL:DO X none cA:=.of (PO.imp zl fun σ H Q h=>by
 obtain⟨ι,σd,g,o,g',G0,S0,h,p⟩:=h
 cases h
 exact p H ι Ext.refl G0)
theorem zQ {e:Expr}{f:FE}(h:DE X e f):DO X (some e) (bQ f):=.of (PO.imp (yv h.un) fun σ H Q h=>by
 obtain⟨ι,σd,g,o,g',G0,S0,h,p⟩:=h
 obtain⟨⟨d,g1⟩,h1,h⟩:=bind_some h
 cases d with
 | int i =>
  cases h
  exact tD.bind G0 S0 h1 fun H1 ι1 v e1 G1 S1 r1=>⟨i,by simpa [Rel] using r1,p H1 ι1 e1 G1⟩
 | _=>cases h)
def cutD (xs:List D)(lo hi:Option Int):List D:=(xs.drop (HT.aU xs.length 0 lo)).take (HT.aU xs.length xs.length hi-HT.aU xs.length 0 lo)
def dS (n:Nat)(lo hi:Option Int):Bool:=decide (HT.aU n 0 lo=0)&&decide (HT.aU n n hi=n)
def hU (d:D)(lo hi:Option Int)(g:G):Option (D×G):=match d with
 | .tup xs=>if dS xs.length lo hi=true then none else some (.tup (cutD xs lo hi),g)
 | .lst xs=>some (.lst (cutD xs lo hi),g)
 | .ref n=>match g[n]? with | some xs=>some (.lst (cutD xs lo hi),g) | none=>none
 | _=>none
theorem ag.Bk {K H ι}{xs:List D}{vs:List V}(r:ag K H ι xs vs)(lo hi:Option Int):ag K H ι (cutD xs lo hi) (jk vs lo hi):=by
 unfold cutD jk
 rw [<- r.length]
 exact ag.take _ (ag.drop _ r)
def AH (K:KW):V->Option Int->Option Int->Hp->VK->Prop:=fun x lo hi H Q=>Bs K x lo hi H Q\/Af K x lo hi H Q
theorem yR:jN X (AH X.kw):=by
 intro pins s σ H x v vl vu lo hi sl Q I rx hs pl pu h
 rcases h with h | h
 . exact AE pins s σ H x v vl vu lo hi sl Q I rx hs pl pu h
 . exact yG pins s σ H x v vl vu lo hi sl Q I rx hs pl pu h
theorem big {pins:List (Addr×Obj)}{σ:L2.St}{H:Hp}{s:Shared}(I:Inv X pins σ H s):sysModules<s.heap.objs.size:=by
 obtain⟨o,es,ep,e,_⟩:=I.mod.glob
 have h1:=Heap.lt_size (I.bk _ _ e)
 exact Nat.lt_trans (by decide) h1
theorem vH {pos:Pos}:DE X (.Dict [] [] pos) (fC .edc):=.of (by
 intro pins s σ H Q I h
 obtain⟨ι,σd,g,d,g',G0,S0,h,p⟩:=h
 cases h
 have hf:H s.heap.objs.size=none:=I.hok.fresh (Nat.le_refl _)
 refine wpAny_Dict_empty ⟨.ref s.heap.objs.size,upd H s.heap.objs.size (.dK []),I.laid (t':=s.toks) (fun b u e=>Heap.get?_push_of_some _ e) (Nat.le_refl _) ?_,rfl,p _ _ _ (Ext.lay hf) (G0.lay hf) ?_⟩
 . exact⟨Nat.zero_le _,beq_eq_false_iff_ne.mpr (Ne.symm (Nat.ne_of_lt (big I))),[],.nil,Heap.DictOf.new _⟩
 . simp only [Rel]
   exact⟨_,rfl,aR,G0.fresh hf⟩)
end
end L3
namespace L3
open PySem PySem.Spec PyProof.Rows L2
def oLt:=kF fun i j=>decide (i<j)
def oLe:=kF fun i j=>decide (i<=j)
def qf:=kF fun i j=>decide (j<i)
def tR:=kF fun i j=>decide (j<=i)
def lN (S:Scope)(XN N:List Str)(fr:List (Option Nat))(scope:Scope):Bool :=
 decide (scope.kind = .function)&&scope.names.all (fun y=>!decide (y.2 = .cell)||decide (scope.names.lookup y.1=some .cell))&&scope.names.all (fun y=>!decide (y.2 = .local)||decide (scope.names.lookup y.1=some .local)) &&
 scope.names.all (fun y=>!decide (y.2 = .free)||(decide (scope.names.lookup y.1=some .free)&&(decide (S.names.lookup y.1=some .cell)||decide (S.names.lookup y.1=some .free)))) &&
 decide (fr.length=N.length)&&(List.range fr.length).all (fun j=>match fr[j]? with
  | some (some i)=>match N[j]? with
   | some x=>decide (XN[i]? = some x)&&decide (scope.names.lookup x=some .free)
   | none=>false
  | _=>true)
theorem uN {X:Cx}{N:List Str}{fr:List (Option Nat)}{scope:Scope}{S:Scope}{XN:List Str}(hS:X.env.scope=S)(hN:X.N=XN)(h:lN S XN N fr scope=true):du X N fr scope:=by
 unfold lN at h
 simp only [Bool.and_eq_true,decide_eq_true_eq,List.all_eq_true,Bool.or_eq_true,Bool.not_eq_true',decide_eq_false_iff_not] at h
 obtain⟨⟨⟨⟨⟨h1,h2⟩,h3⟩,h4⟩,h5⟩,h6⟩:=h
 refine⟨h1,fun y hy e=>?_,fun y hy e=>?_,fun y hy e=>?_,h5,fun j i hf=>?_⟩
 . rcases h2 y hy with z | z
   . exact absurd e z
   . exact z
 . rcases h3 y hy with z | z
   . exact absurd e z
   . exact z
 . rcases h4 y hy with z | z
   . exact absurd e z
   . refine⟨z.1,?_⟩
     show X.env.scope.names.lookup y.1=_\/X.env.scope.names.lookup y.1=_
     rw [hS];exact z.2
 . have hj:j∈List.range fr.length:=List.mem_range.mpr (List.getElem?_eq_some_iff.mp hf).1
   have:=h6 j hj
   rw [hf] at this
   dsimp only at this
   split at this
   . rename_i x hx
     simp only [Bool.and_eq_true,decide_eq_true_eq] at this
     exact⟨x,hx,by rw [hN];exact this.1,this.2⟩
   . cases this
def bW (f:FE):FI:=fun σ g=>(f σ g).bind fun r=>match r.1 with | .tup xs=>some (xs,r.2) | .lst xs=>some (xs,r.2) | _=>none
theorem oK {X:Cx}{tg l:Expr}{fe:FE}(hl:DE X l fe):DI X tg l (bW fe):=.of (by
 intro pins s σ H R I h
 obtain⟨ι,σd,g,ds,g',G0,S0,h,p⟩:=h
 obtain⟨⟨d1,g1⟩,h1,h2⟩:=bind_some h
 cases d1 with
 | tup xs =>
  have h3:mO fe σd g=some (ds,g'):=by unfold mO;rw [h1];exact h2
  exact(AU hl).un pins s σ H R I ⟨ι,σd,g,ds,g',G0,S0,h3,p⟩
 | lst xs =>
  have h3:mR fe σd g=some (ds,g'):=by unfold mR;rw [h1];exact h2
  exact(Cw hl).un pins s σ H R I ⟨ι,σd,g,ds,g',G0,S0,h3,p⟩
 | _=>cases h2)
end L3
namespace L3
open PySem L2
section
variable {σ:Sg}{g:G}{fa fb fc:FE}{fr:FA}{ga gb:FT}{f1 f2:FS}{o o':D->D->G->Option (D×G)}{fn:Fn}{t:FG}{ts:jP}
@[simp] theorem xp {d}:fC d σ g=some (d,g):=rfl
@[simp] theorem qi {i:Nat}:af i σ g=(match σ[i]? with | some (some d)=>some (d,g) | _=>none):=rfl
@[simp] theorem J2:ao o fa fb σ g=(fa σ g).bind fun r=>(fb σ r.2).bind fun q=>o r.1 q.1 q.2:=rfl
@[simp] theorem J7 {o:D->G->Option (D×G)}:hX o fa σ g=(fa σ g).bind fun r=>o r.1 r.2:=rfl
@[simp] theorem JX {b:Bool}:fL (some (.bl b,g))=some (b,g):=rfl
@[simp] theorem Hj:aH fa σ g=fL (fa σ g):=rfl
@[simp] theorem FJ:eM o o' fa fb fc σ g=(fa σ g).bind fun r=>(fb σ r.2).bind fun q=>(fL (o r.1 q.1 q.2)).bind fun k=>if k.1=true then(fc σ k.2).bind fun w=>o' q.1 w.1 w.2 else some (.bl false,k.2):=rfl
@[simp] theorem IA:bO fa σ g=(fa σ g).bind fun r=>(gJ r.1 r.2).map fun b=>(b,r.2):=rfl
@[simp] theorem E3 {b:Bool}:gJ (.bl b) g=some b:=rfl
@[simp] theorem DQ {i:Int}:gJ (.int i) g=some (i != 0):=rfl
@[simp] theorem IZ:eY ga gb σ g=(ga σ g).bind fun r=>if r.1=true then gb σ r.2 else some (false,r.2):=rfl
@[simp] theorem JI:gZ ga gb σ g=(ga σ g).bind fun r=>if r.1=true then some (true,r.2) else gb σ r.2:=rfl
@[simp] theorem Iw:cy ga σ g=(ga σ g).bind fun r=>some (!r.1,r.2):=rfl
@[simp] theorem Gs:cT fa fb σ g=(fL (fa σ g)).bind fun r=>if r.1=true then fb σ r.2 else some (.bl false,r.2):=rfl
@[simp] theorem IJ:i6 fa fb σ g=(fL (fa σ g)).bind fun r=>if r.1=true then some (.bl true,r.2) else fb σ r.2:=rfl
@[simp] theorem GG:kA fa σ g=(fL (fa σ g)).bind fun r=>some (.bl (!r.1),r.2):=rfl
@[simp] theorem Je:uS ga fa fb σ g=(ga σ g).bind fun r=>if r.1=true then fa σ r.2 else fb σ r.2:=rfl
@[simp] theorem lV:aj σ g=some ([],g):=rfl
@[simp] theorem j6:aa fa fr σ g=(fa σ g).bind fun r=>(fr σ r.2).bind fun q=>some (r.1::q.1,q.2):=rfl
@[simp] theorem Dh {m:List D->G->Option (D×G)}:aN m fr σ g=(fr σ g).bind fun r=>m r.1 r.2:=rfl
theorem zC {n:Nat}:aD n=decide (n<=16777216):=rfl
@[simp] theorem Dz {n:Nat}(h:n<=16777216):aD n=true:=decide_eq_true h
@[simp] theorem Fj {ds:List D}:aG ds g=if aD ds.length=true then some (.tup ds,g) else none:=rfl
@[simp] theorem Fh {ds:List D}:cZ ds g=if aD ds.length=true then some (.lst ds,g) else none:=rfl
@[simp] theorem E5 {ds:List D}:mkRef ds g=if aD ds.length=true then some (.ref g.length,g ++ [ds]) else none:=rfl
@[simp] theorem Hk:aL σ g=some (.nx,σ,g):=rfl
@[simp] theorem dh:av f1 f2 σ g=(f1 σ g).bind fun r=>match r.1 with | .nx=>f2 r.2.1 r.2.2 | _=>some r:=rfl
@[simp] theorem lz:aB fa σ g=(fa σ g).bind fun r=>some (.rt r.1,σ,r.2):=rfl
@[simp] theorem fw:bH ga f1 f2 σ g=(ga σ g).bind fun r=>if r.1=true then f1 σ r.2 else f2 σ r.2:=rfl
@[simp] theorem Ht:dG fa σ g=(fa σ g).bind fun r=>some (.nx,σ,r.2):=rfl
@[simp] theorem zw:aF fa t σ g=(fa σ g).bind fun r=>(t r.1 σ r.2).bind fun q=>some (.nx,q.1,q.2):=rfl
@[simp] theorem xR {i:Nat}{d:D}:gN i d σ g=some (σ.set i (some d),g):=rfl
@[simp] theorem Ie:aY [] σ g=some (σ,g):=rfl
@[simp] theorem EY {d:D}{r:List D}:ax t ts (d::r) σ g=(t d σ g).bind fun q=>ts r q.1 q.2:=rfl
@[simp] theorem Kd {n:Nat}{xs:List D}:gT n ts (.tup xs) σ g=if xs.length=n then ts xs σ g else none:=rfl
@[simp] theorem j0:aq fn fr σ g=(fr σ g).bind fun r=>fn r.1 r.2:=rfl
@[simp] theorem IY {T:Ty}:eE T fa σ g=(fa σ g).bind fun r=>if isFn r.1=true then none else some (.bl (eu T r.1),r.2):=rfl
@[simp] theorem pT {i:FI}:ed i t f1 σ g=(i σ g).bind fun r=>forL t f1 r.1 σ r.2:=rfl
@[simp] theorem Jk:bW fa σ g=(fa σ g).bind fun r=>match r.1 with | .tup xs=>some (xs,r.2) | .lst xs=>some (xs,r.2) | _=>none:=rfl
@[simp] theorem GL:mO fa σ g=(fa σ g).bind fun r=>match r.1 with | .tup xs=>some (xs,r.2) | _=>none:=rfl
@[simp] theorem HN:mR fa σ g=(fa σ g).bind fun r=>match r.1 with | .lst xs=>some (xs,r.2) | _=>none:=rfl
@[simp] theorem vn {mk:List D->G->Option (D×G)}{fi:FI}{fr:List (Option Nat)}{c:FT}:bA mk fi fr t c fa σ g=(fi σ g).bind fun r=>if aD r.1.length=true then(bZ t c fa r.1 (bu fr σ) r.2).bind fun q=>mk q.1 q.2 else none:=rfl
@[simp] theorem Jb {ds:List D}:bB ds g=some (.lst ds,g):=rfl
@[simp] theorem GF:bq σ g=some (true,g):=rfl
@[simp] theorem Jw {c:Int->Int->Bool}{f:Int->Int->Int}{i j:Int}:aK c f (.int i) (.int j) g=if c i j=true then some (.int (f i j),g) else none:=rfl
@[simp] theorem He {i j:Int}:aW i j=true:=rfl
@[simp] theorem JL {i j:Int}:oLt (.int i) (.int j) g=some (.bl (decide (i<j)),g):=rfl
@[simp] theorem JR {i j:Int}:oLe (.int i) (.int j) g=some (.bl (decide (i<=j)),g):=rfl
@[simp] theorem Jx {i j:Int}:qf (.int i) (.int j) g=some (.bl (decide (j<i)),g):=rfl
@[simp] theorem JS {i j:Int}:tR (.int i) (.int j) g=some (.bl (decide (j<=i)),g):=rfl
@[simp] theorem Jd {i:Int}:fj (.int i) g=some (.int (-i),g):=rfl
@[simp] theorem Jq {i j:Int}:aM (.int i) (.int j) g=some (.int (i+j),g):=rfl
@[simp] theorem ID {i j:Int}:bS (.int i) (.int j) g=if cR i j=true then some (.int (i*j),g) else none:=rfl
@[simp] theorem JE {d:D}{i:Int}:md d (.int i) g=(cf d g).bind fun xs=>(cH xs i).map fun e=>(e,g):=rfl
@[simp] theorem IK {xs:List D}:cf (.tup xs) g=some xs:=rfl
@[simp] theorem IF {xs:List D}:cf (.lst xs) g=some xs:=rfl
@[simp] theorem Jm {n:Nat}:cf (.ref n) g=g[n]?:=rfl
@[simp] theorem IT {d:D}:bP [d] g=(cf d g).map fun xs=>(.int xs.length,g):=rfl
@[simp] theorem IL {i j:Int}:lK [.int i,.int j] g=some (.int (if j>i then j else i),g):=rfl
@[simp] theorem I_ {i j:Int}:lC [.int i,.int j] g=some (.int (if j<i then j else i),g):=rfl
@[simp] theorem Gh {k:Bool}:jh [.bl k] g=some (.int (if k then 1 else 0),g):=rfl
@[simp] theorem Gp {i:Int}:jh [.int i] g=some (.int i,g):=rfl
@[simp] theorem Jn {d:D}:eH [d] g=(cf d g).bind fun xs=>if aD xs.length=true then some (.tup xs,g) else none:=rfl
@[simp] theorem IE {xs:List D}:dw [.lst xs] g=(bools xs).map fun bs=>(.bl (bs.all id),g):=rfl
@[simp] theorem IW {i j:Int}:oEq (.int i) (.int j) g=some (.bl (i == j),g):=rfl
@[simp] theorem IQ {i j:Bool}:oEq (.bl i) (.bl j) g=some (.bl (i == j),g):=rfl
@[simp] theorem Jg {i j:Str}:oEq (.str i) (.str j) g=some (.bl (i == j),g):=rfl
@[simp] theorem IM {d:D}:uU d .non g=some (.bl (cP d),g):=rfl
@[simp] theorem HA {d:D}:rN d .non g=some (.bl (!cP d),g):=rfl
theorem bL {nN nP:Nat}{ds:List D}{b:FS}{σ':Sg}{d:D}{g':G}(hl:ds.length=nP)(h:b (ds.map some++List.replicate (nN-nP) none) g=some (.rt d,σ',g'))(hg:g'.length=g.length):az false nN nP b ds g=some (d,g'):=by
 unfold az
 rw [if_pos hl,h]
 have e:settle g.length d g'=some (d,g'):=by
  unfold settle
  rw [if_pos hg]
 simpa using e
theorem p8 {nN nP:Nat}{ds:List D}{b:FS}{σ':Sg}{d:D}{g':G}(hl:ds.length=nP)(h:b (ds.map some++List.replicate (nN-nP) none) g=some (.rt d,σ',g')):az true nN nP b ds g=some (d,g'):=by
 unfold az
 rw [if_pos hl,h]
 rfl
end
theorem fT {t:FG}{c:FT}{e:FE}{h:D->D}(I:Sg->Prop):∀(ds:List D) (σ:Sg) (g:G),I σ->(∀d∈ds,∀σ,I σ->∃σ1,t d σ g=some (σ1,g)/\c σ1 g=some (true,g)/\e σ1 g=some (h d,g)/\I σ1)->bZ t c e ds σ g=some (ds.map h,g)
 | [],_,_,_,_=>rfl
 | d::ds,σ,g,hi,hh=>by
  obtain⟨σ1,h1,h2,h3,h4⟩:=hh d List.mem_cons_self σ hi
  simp only [bZ,h1,h2,h3,Option.bind_some,if_true,fT I ds σ1 g h4 fun x hx=>hh x (List.mem_cons_of_mem _ hx),List.map_cons]
theorem dy {α:Type}(f:α->Bool):∀xs:List α,bools (xs.map fun x=>D.bl (f x))=some (xs.map f)
 | []=>rfl
 | x::xs=>by simp only [List.map_cons,bools,dy f xs,Option.map_some]
@[simp] theorem Hx {α:Type}{σ:List (Option α)}:bu [] σ = []:=rfl
@[simp] theorem Ft {α:Type}{σ:List (Option α)}{fr:List (Option Nat)}:bu (none::fr) σ=none::bu fr σ:=rfl
@[simp] theorem Fq {α:Type}{σ:List (Option α)}{fr:List (Option Nat)}{i:Nat}:bu (some i::fr) σ=(σ[i]?).join::bu fr σ:=rfl
end L3
namespace L3
open PySem PySem.Spec PyProof.Rows L2
def rQ (c:Bool):D->Bool
 | .bl b=>b == c
 | _=>false
def isLit (d1 d2:D):Option Bool:=match d2 with
 | .non=>some (cP d1)
 | .bl c=>some (rQ c d1)
 | _=>none
def me (d1 d2:D)(g:G):Option (D×G):=(isLit d1 d2).map fun b=>(.bl b,g)
def cU (d1 d2:D)(g:G):Option (D×G):=(isLit d1 d2).map fun b=>(.bl (!b),g)
section
variable {X:Cx}
theorem uh {K H ι d v u c}(r:Rel K H ι d v)(rx:RelV v u):(u == Value.bool c)=rQ c d/\PySem.plainIs u (.bool c)=true:=by
 cases d with
 | non=>simp only [Rel] at r;subst r;cases rx;exact⟨rfl,rfl⟩
 | bl b=>simp only [Rel] at r;subst r;cases rx;exact⟨by cases b<;>cases c<;>rfl,rfl⟩
 | int _=>simp only [Rel] at r;subst r;obtain⟨t,rfl⟩:=rx;exact⟨rfl,rfl⟩
 | str _=>simp only [Rel] at r;subst r;obtain⟨t,rfl⟩:=rx;exact⟨rfl,rfl⟩
 | tup _=>simp only [Rel] at r;obtain⟨a,vs,rfl,_⟩:=r;cases rx;exact⟨rfl,rfl⟩
 | lst _=>simp only [Rel] at r;obtain⟨a,vs,rfl,_⟩:=r;cases rx;exact⟨rfl,rfl⟩
 | edc=>simp only [Rel] at r;obtain⟨a,rfl,_⟩:=r;cases rx;exact⟨rfl,rfl⟩
 | ref _=>simp only [Rel] at r;obtain⟨a,rfl,_⟩:=r;cases rx;exact⟨rfl,rfl⟩
 | aQ _=>simp only [Rel] at r;obtain⟨a,rfl,_⟩:=r;cases rx;exact⟨rfl,rfl⟩
 | fn _=>simp only [Rel] at r;obtain⟨a,rfl,_⟩:=r;cases rx;exact⟨rfl,rfl⟩
theorem Em:aT X (compareOp .Is) (bU X.kw me):=by
 intro pins s σ H x y v u Q I rx ry q
 obtain⟨ι,g,d1,d2,d,g',G0,r1,r2,q,p⟩:=q
 cases d2 with
 | non=>exact BI pins s σ H x y v u Q I rx ry ⟨ι,g,d1,.non,d,g',G0,r1,r2,q,p⟩
 | bl c =>
  simp only [Rel] at r2;subst r2;cases ry
  simp only [me,isLit,Option.map_some] at q
  cases q
  obtain⟨e,z⟩:=uh (c:=c) r1 rx
  refine wpAny_is_plain z ?_
  rw [e]
  exact⟨.bl _,H,I,rfl,p H ι _ Ext.refl G0 (by simp [Rel])⟩
 | _=>cases q
theorem yu:aT X (compareOp .IsNot) (bU X.kw cU):=by
 intro pins s σ H x y v u Q I rx ry q
 obtain⟨ι,g,d1,d2,d,g',G0,r1,r2,q,p⟩:=q
 cases d2 with
 | non=>exact yg pins s σ H x y v u Q I rx ry ⟨ι,g,d1,.non,d,g',G0,r1,r2,q,p⟩
 | bl c =>
  simp only [Rel] at r2;subst r2;cases ry
  simp only [cU,isLit,Option.map_some] at q
  cases q
  obtain⟨e,z⟩:=uh (c:=c) r1 rx
  refine wpAny_isNot_plain z ?_
  rw [e]
  exact⟨.bl _,H,I,rfl,p H ι _ Ext.refl G0 (by simp [Rel])⟩
 | _=>cases q
end
@[simp] theorem JO {d1 d2:D}{g:G}:me d1 d2 g=(isLit d1 d2).map fun b=>(.bl b,g):=rfl
@[simp] theorem FP {d1 d2:D}{g:G}:cU d1 d2 g=(isLit d1 d2).map fun b=>(.bl (!b),g):=rfl
@[simp] theorem Fi {d1:D}:isLit d1 .non=some (cP d1):=rfl
@[simp] theorem Fx {d:D}{c:Bool}:isLit d (.bl c)=some (rQ c d):=rfl
@[simp] theorem Jj {b c:Bool}:rQ c (.bl b)=(b == c):=rfl
def Ix.none (ι:Ix):Ix:=⟨[],ι.ix++ι.hd,ι.kd⟩
def u_:HO->Bool
 | .tup _=>true
 | .frz _ _=>true
 | .dK _=>true
 | _=>false
mutual
theorem Rel.toN {K H ι}:∀(d:D) {v:V},bp 0 d=true->Rel K H ι d v->Rel K H (Ix.none ι) d v
 | .non,v,_,h=>by simpa [Rel] using h
 | .bl _,v,_,h=>by simpa [Rel] using h
 | .int _,v,_,h=>by simpa [Rel] using h
 | .str _,v,_,h=>by simpa [Rel] using h
 | .tup xs,v,z,h=>by
  simp only [Rel] at h ⊢
  obtain⟨a,vs,e1,hq,hr⟩:=h
  refine⟨a,vs,e1,?_,ag.toN xs z hr⟩
  rcases hq with⟨hq,hn⟩ | hq
  . exact .inl ⟨hq,by simp [Ix.none]⟩
  . exact .inr hq
 | .lst xs,v,z,h=>by
  simp only [Rel] at h ⊢
  obtain⟨a,vs,e1,hq,hr⟩:=h
  refine⟨a,vs,e1,?_,ag.toN xs z hr⟩
  rcases hq with⟨hq,hn,hh⟩ | hq
  . exact .inl ⟨hq,by simp [Ix.none],fun m=>(List.mem_append.mp m).elim hn hh⟩
  . exact .inr hq
 | .edc,v,_,h=>by
  simp only [Rel] at h ⊢
  obtain⟨a,e1,hq,hr⟩:=h
  exact⟨a,e1,hq,by simp [Ix.none]⟩
 | .ref k,v,z,h=>by simp [bp] at z
 | .aQ k,v,z,h=>by simp [bp] at z
 | .fn x,v,_,h=>by simpa [Rel] using h
theorem ag.toN {K H ι}:∀(ds:List D) {vs:List V},aP 0 ds=true->ag K H ι ds vs->ag K H (Ix.none ι) ds vs
 | [],vs,_,h=>by simpa [ag] using h
 | d::ds,vs,z,h=>by
  simp only [ag] at h ⊢
  simp only [aP,Bool.and_eq_true] at z
  obtain⟨v,vr,e1,hq,hr⟩:=h
  exact⟨v,vr,e1,Rel.toN d z.1 hq,ag.toN ds z.2 hr⟩
end
mutual
theorem Rel.pW {K H ι ι'}(hh:ι'.hd=ι.ix++ι.hd)(hl:∀a∈ι.ix,∃o,H a=some o/\u_ o=false):∀(d:D) {v:V},bp 0 d=true->Rel K H ι' d v->Rel K H ι d v
 | .non,v,_,h=>by simpa [Rel] using h
 | .bl _,v,_,h=>by simpa [Rel] using h
 | .int _,v,_,h=>by simpa [Rel] using h
 | .str _,v,_,h=>by simpa [Rel] using h
 | .tup xs,v,z,h=>by
  simp only [Rel] at h ⊢
  obtain⟨a,vs,e1,hq,hr⟩:=h
  refine⟨a,vs,e1,?_,ag.pW hh hl xs z hr⟩
  rcases hq with⟨hq,hn⟩ | hq
  . refine .inl ⟨hq,fun m=>?_⟩
    obtain⟨us,e,f⟩:=hl a m
    rcases hq with hq | ⟨o,hq⟩<;>rw [e] at hq<;>cases hq<;>cases f
  . exact .inr hq
 | .lst xs,v,z,h=>by
  simp only [Rel] at h ⊢
  obtain⟨a,vs,e1,hq,hr⟩:=h
  refine⟨a,vs,e1,?_,ag.pW hh hl xs z hr⟩
  rcases hq with⟨hq,hn,hk⟩ | hq
  . rw [hh] at hk
    exact .inl ⟨hq,fun m=>hk (List.mem_append.mpr (.inl m)),fun m=>hk (List.mem_append.mpr (.inr m))⟩
  . exact .inr hq
 | .edc,v,_,h=>by
  simp only [Rel] at h ⊢
  obtain⟨a,e1,hq,hr⟩:=h
  refine⟨a,e1,hq,fun m=>?_⟩
  obtain⟨us,e,f⟩:=hl a m
  rw [e] at hq;cases hq;cases f
 | .ref k,v,z,h=>by simp [bp] at z
 | .aQ k,v,z,h=>by simp [bp] at z
 | .fn x,v,_,h=>by simpa [Rel] using h
theorem ag.pW {K H ι ι'}(hh:ι'.hd=ι.ix++ι.hd)(hl:∀a∈ι.ix,∃o,H a=some o/\u_ o=false):∀(ds:List D) {vs:List V},aP 0 ds=true->ag K H ι' ds vs->ag K H ι ds vs
 | [],vs,_,h=>by simpa [ag] using h
 | d::ds,vs,z,h=>by
  simp only [ag] at h ⊢
  simp only [aP,Bool.and_eq_true] at z
  obtain⟨v,vr,e1,hq,hr⟩:=h
  exact⟨v,vr,e1,Rel.pW hh hl d z.1 hq,ag.pW hh hl ds z.2 hr⟩
end
theorem au.lst {K H ι g}(h:au K H ι g){a:Addr}(ha:a∈ι.ix):∃o,H a=some o/\u_ o=false:=by
 obtain⟨i,hi,e⟩:=List.mem_iff_getElem.mp ha
 have hg:i<g.length:=by rw [<- h.len];exact hi
 obtain⟨b,o,vs,hb,h1,ov,_⟩:=h.at_ i _ (List.getElem?_eq_getElem hg)
 rw [List.getElem?_eq_getElem hi,e] at hb
 cases hb
 generalize ι.kd i=kk at ov
 exact⟨o,h1,by cases ov<;>rfl⟩
def i9 (fn:Fn):Fn:=fun ds g=>if aP 0 ds=true then(fn ds []).bind fun r=>if bp 0 r.1=true then some (r.1,g) else none else none
theorem jS {fn:Fn}{ds g d g'}(h:i9 fn ds g=some (d,g')):aP 0 ds=true/\(∃gx,fn ds []=some (d,gx))/\bp 0 d=true/\g'=g:=by
 unfold i9 at h
 split at h
 . rename_i z
   obtain⟨⟨d1,g1⟩,h1,h⟩:=bind_some h
   split at h
   . rename_i z2
     cases h
     exact⟨z,⟨g1,h1⟩,z2,rfl⟩
   . cases h
 . cases h
theorem yr {P:Program}{K:KW}{base:Heap}{k n f fd ps}{fn:Fn}(F:cL P K.w K.fr K.mg base fM k f fd ps (i7 K n fn)):cL P K.w K.fr K.mg base fM k f fd ps (i7 K n (i9 fn)) :=
 cL.imp F fun vs H Q E ⟨hl,ι,g,ds,d,g',G0,r,h,p⟩=>by
  obtain⟨z,⟨gx,hx⟩,z2,rfl⟩:=jS h
  refine⟨hl,Ix.none ι,[],ds,d,gx,⟨List.nodup_nil,rfl,fun b hb=>⟨by simp [Ix.none],?_⟩,fun i xs q=>by simp at q⟩,ag.toN ds z r,hx,fun H' ι' v e G1 rv=>?_⟩
  . rcases List.mem_append.mp hb with m | m
    . exact G0.mn m
    . exact(G0.hid b m).2
  . have same:∀a∈ι.ix,H' a=H a:=fun a ha=>by
      obtain⟨vs,ev,_⟩:=G0.lst ha
      rw [ev]
      exact e.same a _ ev (by simp [Ix.none])
    have e0:Ext H ι H' ι:=⟨fun a o q _=>e.same a o q (by simp [Ix.none]),e.there,⟨[],by simp,fun _ q=>by simp at q⟩,rfl,fun _ _=>rfl⟩
    refine p H' ι v e0 (G0.ext e0 same) (Rel.pW e.hid (fun a ha=>?_) d z2 rv)
    obtain⟨vs,ev,f⟩:=G0.lst ha
    exact⟨vs,by rw [same a ha];exact ev,f⟩
theorem rV {fn:Fn}{n:Nat}(h:∀ds g r,fn ds g=some r->ds.length=n):∀ds g r,i9 fn ds g=some r->ds.length=n:=fun ds g r q=>by
 obtain⟨_,⟨gx,hx⟩,_⟩:=jS (d:=r.1) (g':=r.2) q
 exact h _ _ _ hx
end L3
namespace L3
open PySem L2
def wp {α:Type}(o:Option α)(Q:α->Prop):Prop:=∃a,o=some a/\Q a
section
variable {α β:Type}{o:Option α}{Q R:α->Prop}
@[simp] theorem eX {a:α}:wp (some a) Q=Q a:=by simp [wp]
@[simp] theorem IB:wp (none:Option α) Q=False:=by simp [wp]
@[simp] theorem wp_bind {f:α->Option β}{Q:β->Prop}:wp (o.bind f) Q=wp o fun a=>wp (f a) Q:=by
 cases o<;>simp [wp]
@[simp] theorem wp_map {f:α->β}{Q:β->Prop}:wp (o.map f) Q=wp o fun a=>Q (f a):=by
 cases o<;>simp [wp]
theorem wp_mono (h:wp o R)(i:∀a,R a->Q a):wp o Q:=let⟨a,e,r⟩:=h;⟨a,e,i a r⟩
end
@[simp] theorem JT {o:Option (D×G)}{Q:Bool×G->Prop}:wp (fL o) Q=wp o fun r=>∃b,r.1 = .bl b/\Q (b,r.2):=by
 cases o with
 | none=>simp [fL]
 | some r =>
  obtain⟨d,g⟩:=r
  cases d with
  | bl b=>cases b<;>simp [fL]
  | _=>simp [fL]
section
variable {σ:Sg}{g:G}{fa:FE}{fl fh:FO}
@[simp] theorem Hz {xs ys:List D}:aM (.tup xs) (.tup ys) g=if aD (xs.length+ys.length)=true then some (.tup (xs++ys),g) else none:=rfl
@[simp] theorem Hi {xs ys:List D}:aM (.lst xs) (.lst ys) g=if aD (xs.length+ys.length)=true then some (.lst (xs++ys),g) else none:=rfl
@[simp] theorem H_ {x y:Str}:aM (.str x) (.str y) g=if aD (x.length+y.length)=true then some (.str (x++y),g) else none:=rfl
@[simp] theorem IU:cA σ g=some (none,g):=rfl
@[simp] theorem H0:bQ fa σ g=(fa σ g).bind fun r=>match r.1 with | .int i=>some (some i,r.2) | _=>none:=rfl
theorem BN {xs:List D}{k:Int}(h1:k<=1000)(h0:-1000<=k)(h2:xs.length<=1000):bS (.tup xs) (.int k) g=some (.tup (List.replicate k.toNat xs).flatten,g):=by
 show(if(da k&&aD (xs.length*k.toNat))=true then some (D.tup (List.replicate k.toNat xs).flatten,g) else none)=_
 rw [if_pos]
 have hk:k.toNat<=1000:=by omega
 have:xs.length*k.toNat<=1000*1000:=Nat.mul_le_mul h2 hk
 rw [da.of (by omega) (by omega),Dz (by omega)]
 rfl
theorem nI {n a:Nat}(h:a<=n):HT.aU n n (some (a:Int))=a:=by rw [HT.pX];omega
theorem j4 {n a:Nat}(h:a<=n):HT.aU n 0 (some (a:Int))=a:=by rw [HT.pX];omega
theorem ky {xs:List D}{a:Nat}(h:a<xs.length):hU (.tup xs) none (some (a:Int)) g=some (.tup (xs.take a),g):=by
 have hw:dS xs.length none (some (a:Int))=false:=by
  unfold dS
  rw [nI (Nat.le_of_lt h)]
  simp;omega
 simp only [hU,hw,Bool.false_eq_true,if_false]
 unfold cutD
 rw [nI (Nat.le_of_lt h),HT.gj]
 simp
theorem lA {xs:List D}{a:Nat}(h:a<xs.length):hU (.tup xs) (some ((a:Int)+1)) none g=some (.tup (xs.drop (a+1)),g):=by
 have e:(a:Int)+1=((a+1:Nat):Int):=by simp
 rw [e]
 have hw:dS xs.length (some ((a+1:Nat):Int)) none=false:=by
  unfold dS
  rw [j4 h]
  simp
 simp only [hU,hw,Bool.false_eq_true,if_false]
 unfold cutD
 rw [j4 h,HT.gj,List.take_of_length_le (by simp)]
end
theorem lu {t:FG}{b:FS}{Q:F×Sg×G->Prop}(I:Nat->Sg->G->Prop):∀(ds:List D) (i:Nat) (σ:Sg) (g:G),I i σ g ->
  (∀(j:Nat) (d:D) σ g,ds[j]? = some d->I (i+j) σ g->wp (t d σ g) fun q=>wp (b q.1 q.2) fun r=>match r.1 with
   | .nx=>I (i+j+1) r.2.1 r.2.2
   | .ct=>I (i+j+1) r.2.1 r.2.2
   | .bk=>Q (.nx,r.2.1,r.2.2)
   | .rt d=>Q (.rt d,r.2.1,r.2.2))->(∀σ g,I (i+ds.length) σ g->Q (.nx,σ,g))->wp (forL t b ds σ g) Q
 | [],i,σ,g,hi,_,he=>by simp only [forL,eX];exact he σ g hi
 | d::ds,i,σ,g,hi,hs,he=>by
  simp only [forL,wp_bind]
  refine wp_mono (hs 0 d σ g rfl hi) fun q hq=>wp_mono hq fun r hr=>?_
  have go:I (i+0+1) r.2.1 r.2.2->wp (forL t b ds r.2.1 r.2.2) Q:=fun z =>
   lu I ds (i+1) _ _ z (fun j d σ g e h=>by
    have q:=hs (j+1) d σ g (by simpa using e) (by rw [show i+(j+1)=i+1+j by omega];exact h)
    rw [show i+(j+1)+1=i+1+j+1 by omega] at q
    exact q) fun σ g h=>he σ g (by rw [List.length_cons,show i+(ds.length+1)=i+1+ds.length by omega];exact h)
  obtain⟨r1,r2⟩:=r
  cases r1 with
  | nx=>exact go hr
  | ct=>exact go hr
  | bk=>simp only [eX];exact hr
  | rt d=>simp only [eX];exact hr
theorem fW {nN nP:Nat}{b:FS}{ds:List D}{g:G}{Q:D×G->Prop}(hl:ds.length=nP)(h:wp (b (ds.map some++List.replicate (nN-nP) none) g) fun r=>match r.1 with
  | .rt d=>bp g.length d=true/\(r.2.2.take g.length).all (aP g.length)=true/\g.length<=r.2.2.length/\Q (d,r.2.2.take g.length)
  | .nx=>(r.2.2.take g.length).all (aP g.length)=true/\g.length<=r.2.2.length/\Q (.non,r.2.2.take g.length)
  | _=>False):wp (az false nN nP b ds g) Q:=by
 obtain⟨⟨r,σ,g'⟩,e,q⟩:=h
 unfold az
 rw [if_pos hl,e]
 have fin:∀d,bp g.length d=true->(g'.take g.length).all (aP g.length)=true->g.length<=g'.length->Q (d,g'.take g.length)->wp (settle g.length d g') Q:=fun d z1 z2 z3 z4=>by
  by_cases hg:g'.length=g.length
  . rw [List.take_of_length_le (by omega)] at z4
    exact⟨_,by unfold settle;rw [if_pos hg],z4⟩
  . refine⟨_,?_,z4⟩
    unfold settle
    rw [if_neg hg,if_pos z2]
    cases d with
    | ref k =>
     have z:k<g.length:=by simpa [bp] using z1
     simp only [if_pos z]
    | _=>simp only [if_pos z1]
 cases r with
 | rt d =>
  obtain⟨q1,q2,q3,q4⟩:=q
  exact fin d q1 q2 q3 q4
 | nx =>
  obtain⟨q2,q3,q4⟩:=q
  exact fin .non rfl q2 q3 q4
 | bk=>exact q.elim
 | ct=>exact q.elim
end L3
namespace L3
open PySem PySem.Spec PyProof.Rows L2
open SeqAt
def iV:D->Bool
 | .non=>true
 | .bl _=>true
 | .int _=>true
 | .str _=>true
 | _=>false
def toV:D->V
 | .bl b=>.bl b
 | .int i=>.int i
 | .str x=>.str x
 | _=>.non
theorem zo {K H ι d}(h:iV d=true):Rel K H ι d (toV d):=by
 cases d with
 | non=>simp [Rel,toV]
 | bl _=>simp [Rel,toV]
 | int _=>simp [Rel,toV]
 | str _=>simp [Rel,toV]
 | _=>cases h
theorem oM {K H ι}:∀{xs:List D},xs.all iV=true->ag K H ι xs (xs.map toV)
 | [],_=>by simp [ag]
 | d::xs,h=>by
  rw [List.all_cons,Bool.and_eq_true] at h
  simp only [List.map_cons,ag]
  exact⟨_,_,rfl,zo h.1,oM h.2⟩
def Hv (K:KW)(d:D)(v:V):Prop:=(iV d=true/\v=toV d) \/
 ∃xs a o its n,d = .tup xs/\xs.all iV=true/\v = .ref a/\K.fr.lookup a=some o/\o.cls = .type "tuple" /\ o.dict=none/\o.data = .seq its n/\its.size<=sizeLine/\Vals (xs.map toV) its.toList
def xf (w:World)(K:KW):List DictEntry->List (Str×D)->Prop
 | [],tbl=>tbl = []
 | e::es,tbl=>∃x d rest,tbl=(x,d)::rest/\(∃t,e.key = .str x t)/\e.hash=hashStr w x/\(∃v,RelV v e.val/\Hv K d v)/\xf w K es rest
structure mV (w:World)(K:KW)(a:Addr)(tbl:List (Str×D)):Prop where
 ex:∃o es ep,K.fr.lookup a=some o/\o.ExactDict/\o.data = .dict es ep/\xf w K es.toList tbl
 sys:(a == sysModules)=false
end L3
namespace L3
open PySem PySem.Spec PyProof.Rows L2
def ES:List Str->List V->List (Value×Value)->Prop
 | [],xs,vs=>xs = []/\vs = []
 | k::ks,xs,vs=>∃x xr t u vr,xs=x::xr/\vs=(.str k t,u)::vr/\RelV x u/\ES ks xr vr
structure Ki (X:Cx)(keys:List (Option Expr))(vals:List Expr)(pos:Pos)(ks:List Str)(fr:FA):Prop where
 all:keys.all (·.isSome)=true
 len:keys.length=vals.length
 len2:keys.length=ks.length
 un:∀(pins:List (Addr×Obj)) (s:Shared) (σ:L2.St) (H:Hp) (Q:List V->Hp->Prop),Inv X pins σ H s->eU X.kw fr σ H Q ->
  wpAny (model X.prog X.w) X.A (evalPairs (pairTrees keys vals X.env pos)) (fun vs s1=>∃xs H1,Inv X pins σ H1 s1/\ES ks xs vs/\Q xs H1) X.xe s
section
variable {X:Cx}
theorem vF {acc:Array Value}{n:Nat}(h:ItemsOf (fun i v=>∃t,v=Value.int ((0:Int)+i*1) t) acc n):Vals (((List.range n).map fun(k:Nat)=>D.int k).map toV) acc.toList:=by
 obtain⟨h1,h2⟩:=h
 have key:∀(m k:Nat) (l:List Value),l.length=m->(∀j v,l[j]? = some v->∃t,v=Value.int ((k+j:Nat):Int) t)->Vals (((List.range' k m).map fun(k:Nat)=>D.int k).map toV) l:=by
  intro m
  induction m with
  | zero =>
   intro k l hl _
   have:l = []:=List.eq_nil_of_length_eq_zero hl
   subst this
   exact .nil
  | succ m ih =>
   intro k l hl hv
   cases l with
   | nil=>simp at hl
   | cons v l =>
    rw [List.range'_succ]
    simp only [List.map_cons]
    refine .cons ?_ (ih (k+1) l (by simpa using hl) fun j u hj=>?_)
    . obtain⟨t,e⟩:=hv 0 v rfl
      exact⟨t,by simpa using e⟩
    . obtain⟨t,e⟩:=hv (j+1) u (by simpa using hj)
      exact⟨t,by rw [e];congr 2;omega⟩
 have:=key n 0 acc.toList (by simpa using h1) fun j v hj=>by
  obtain⟨t,e⟩:=h2 j v (by simpa using hj)
  exact⟨t,by rw [e];congr 1;simp⟩
 rw [List.range_eq_range']
 exact this
def fJ (i j:Nat)(fr:FA):FS:=fun σ g=>(fr σ g).bind fun r=>match r.1 with
 | [a,b]=>some (.nx,(σ.set i (some a)).set j (some b),r.2)
 | _=>none
theorem Dr {i j:Nat}{x y:Str}{a b:Expr}{fr:FA}{px py pt pos:Pos}{kt k2 dN}(hc:X.calm=true)(hN:X.N.Nodup)(hi:X.N[i]? = some x)(hj:X.N[j]? = some y)(hij:i≠j)
  (hx:X.env.scope.names.lookup x=some .local) (hy:X.env.scope.names.lookup y=some .local) (ha:DA X [a,b] fr)
  (hw:swappedStores [.Tuple [.Name x px,.Name y py] kt pt] (.Tuple [a,b] k2 dN) X.env=pure (some [x,y]))
  (hs:swapsWithSole [.Tuple [.Name x px,.Name y py] kt pt] (.Tuple [a,b] k2 dN) pos.line X.env=pure false:=by rfl) :
  DS X (.Assign [.Tuple [.Name x px,.Name y py] kt pt] (.Tuple [a,b] k2 dN) pos) (fJ i j fr):=.of (
 PS.imp (Ba hc hN hi hj hij hx hy ha.un hw hs) fun Dn σ H h=>by
  obtain⟨ι,σd,g,r,σd',g',G0,S0,h,p⟩:=h
  obtain⟨⟨ds,g1⟩,h1,h⟩:=bind_some h
  refine eU.bind G0 S0 h1 fun H1 ι1 vs e1 G1 S1 r1=>?_
  dsimp only at h
  split at h
  . rename_i a b
    cases h
    simp only [ag] at r1
    obtain⟨v,vr,rfl,ra,u,ur,rfl,rb,rfl⟩:=r1
    exact⟨v,u,rfl,p H1 ι1 e1 G1 _ ((S1.set ra i).set rb j)⟩
  . cases h)
end
theorem dW {prog:Program}{w:World}{A:Around}{E:Value->Shared->Prop}{s:Shared}{it a:Addr}{i:Nat}{items:Array Value}{x:Value}{Q:Value->Shared->Prop}(hit:s.heap.IsTupleIter it a i)(hl:s.heap.IsTuple a items)(hx:items[i]? = some x)
  (hQ:∀h',h'.IsTupleIter it a (i+1)->Heap.SameBut it s.heap h'->Q x { s with heap:=h' }):wpAny (model prog w) A (Builtin.SmallTypes.nextOf (.ref it)) Q E s:=by
 obtain⟨o,jo,jc,jd⟩:=id hit
 obtain⟨tb0,tb1,_,tb3,tb2⟩:=hl
 unfold Builtin.SmallTypes.nextOf
 refine wpAny_bind (wpAny_callSpecial?_slot (name:=Str.ofString "__next__") hit.typeIs F.slot_tuple_iterator_next (wpAny_call_entry F.slot_tuple_iterator_next hit.typeIs F.entry_tuple_iterator_next ?_ (F.args_tuple_iterator_next_1 _)))
 change wpAny _ _ (field (.ref it) 0 >>= fun _=>_) _ _ _
 refine wpAny_bind (wpAny_field jo jd (x:=.ref a) rfl ?_)
 change wpAny _ _ (if(Value.ref a == Value.none)=true then _ else _) _ _ _
 rw [if_neg (by exact Bool.false_ne_true)]
 change wpAny _ _ (field (.ref it) 1 >>= fun _=>_) _ _ _
 refine wpAny_bind (wpAny_field jo jd (x:=.int i 0) rfl ?_)
 change wpAny _ _ (seqItems? (.ref a) >>= fun _=>_) _ _ _
 refine wpAny_bind (wpAny_seqItems tb1 tb2 ?_)
 simp only [Int.toNat_natCast,hx]
 refine wpAny_bind (wpAny_setField jo jd (by simp) ?_)
 refine wpAny_pure ⟨x,rfl,wpAny_pure (hQ _ ⟨_,Heap.get?_update_self _ jo (Obj.isFreed_of_fields (Obj.data_mapFields jd _)),(Obj.cls_mapFields ..).trans jc,?_⟩ (Heap.SameBut.update ..))⟩
 rw [Obj.data_mapFields jd]
 simp [rawInt]
theorem eJ {prog:Program}{w:World}{A:Around}{E:Value->Shared->Prop}{s:Shared}{it a:Addr}{i:Nat}{items:Array Value}{Q:Value->Shared->Prop}(hh:A.handled=none)(hit:s.heap.IsTupleIter it a i)(hl:s.heap.IsTuple a items)(hx:items[i]? = none)
  (hE:∀h' e,Heap.ExtBut it s.heap h'->(∃o,h'.get? e=some o/\o.cls = .type "StopIteration")->E (.ref e) { s with heap:=h' }):wpAny (model prog w) A (Builtin.SmallTypes.nextOf (.ref it)) Q E s:=by
 obtain⟨o,jo,jc,jd⟩:=id hit
 obtain⟨tb0,tb1,_,tb3,tb2⟩:=hl
 unfold Builtin.SmallTypes.nextOf
 refine wpAny_bind (wpAny_callSpecial?_slot (name:=Str.ofString "__next__") hit.typeIs F.slot_tuple_iterator_next (wpAny_call_entry F.slot_tuple_iterator_next hit.typeIs F.entry_tuple_iterator_next ?_ (F.args_tuple_iterator_next_1 _)))
 change wpAny _ _ (field (.ref it) 0 >>= fun _=>_) _ _ _
 refine wpAny_bind (wpAny_field jo jd (x:=.ref a) rfl ?_)
 change wpAny _ _ (if(Value.ref a == Value.none)=true then _ else _) _ _ _
 rw [if_neg (by exact Bool.false_ne_true)]
 change wpAny _ _ (field (.ref it) 1 >>= fun _=>_) _ _ _
 refine wpAny_bind (wpAny_field jo jd (x:=.int i 0) rfl ?_)
 change wpAny _ _ (seqItems? (.ref a) >>= fun _=>_) _ _ _
 refine wpAny_bind (wpAny_seqItems tb1 tb2 ?_)
 simp only [Int.toNat_natCast,hx]
 refine wpAny_bind (wpAny_rule (wpAny_bind (wpAny_setField jo jd (by simp) ?_)))
 change wpAny _ _ (newExc (.type "StopIteration") [] >>= fun _=>_) _ _ _
 refine wpAny_bind ?_
 simp only [newExc,newTuple]
 refine wpAny_bind (wpAny_newObj_type ?_ (by size_fits))
 refine wpAny_bind (m:=firstArgMember _ _) (wpAny_of_eq (a:=Value.none) (by first | rfl | (simp only [firstArgMember];rfl)) ?_)
 refine wpAny_newObj_type ?_ (by size_fits)
 simp only [raiseNew]
 refine wpAny_bind (wpAny_handled ?_)
 rw [show A.in1.handled=none from hh]
 exact wpAny_bind (wpAny_pure (wpAny_throw (hE _ _ (((Heap.SameBut.update ..).extBut.push _).push _) ⟨_,Heap.get?_push_size _ rfl,rfl⟩)))
theorem uz {prog:Program}{w:World}{A:Around}(hh:A.handled=none)(it a:Addr)(hne:a≠it)(items:Array Value) :
  Draws prog w A it [it,a] items.size (fun i v=>items[i]? = some v) (fun i h=>h.IsTupleIter it a i/\h.IsTuple a items) where
 live:=fun _ _ st=>let⟨o,ho,_⟩:=st.1;⟨o,ho⟩
 frame:=fun _ _ _ st hk=>⟨st.1.at fun o e=>hk it (by simp) o e,let⟨o,ho,r⟩:=st.2;⟨o,hk a (by simp) o ho,r⟩⟩
 item:=fun i s Q E hi st hQ=>dW st.1 st.2 (x:=items[i]) (by simp [hi]) fun h' hit' hs'=>hQ _ h' s.toks (by simp [hi]) ⟨hit',st.2.extBut hs'.extBut hne⟩ hs'
 done:=fun s Q E st hE=>eJ hh st.1 st.2 (by simp) hE
theorem ua {prog:Program}{w:World}{A:Around}(hh:A.handled=none)(it a:Addr)(items:Array Value)(n:Nat)(hn:items.size<=n) :
  Draws prog w A it [it,a] n (fun _ _=>True) (fun j h=>j=n/\h.IsTupleIter it a n/\h.IsTuple a items) where
 live:=fun _ _ st=>let⟨o,ho,_⟩:=st.2.1;⟨o,ho⟩
 frame:=fun _ _ _ st hk=>⟨st.1,st.2.1.at fun o e=>hk it (by simp) o e,let⟨o,ho,r⟩:=st.2.2;⟨o,hk a (by simp) o ho,r⟩⟩
 item:=fun i s Q E hi st hQ=>absurd st.1 (Nat.ne_of_lt hi)
 done:=fun s Q E st hE=>eJ hh st.2.1 st.2.2 (by simp;exact hn) hE
theorem uA (a:Addr)(items:Array Value)(n:Nat)(aQ:Option Addr)(sl:Array (Option Value)) :
  Meets (Builtin.«enumerate.__new__» ⟨[.type "enumerate",.ref a],[]⟩) (fun _ R s=>s.heap.get? a=some { cls:=.type "tuple",dict:=aQ,data:=.seq items n,slots:=sl } /\
    R (.ok (.ret (.ref (s.heap.push { cls:=.type "tuple_iterator",data:=.fields #[.ref a,.int 0 0] }).objs.size)))
     { s with heap:=(s.heap.push { cls:=.type "tuple_iterator",data:=.fields #[.ref a,.int 0 0] }).push { cls:=.type "enumerate",data:=.fields #[.none,.bool false,.ref s.heap.objs.size,rawInt 0,.none,.none] } }) :=
 .of_wp fun prog w A R s h=>by
  obtain⟨hp,g,d,tk,os⟩:=s
  obtain⟨ht,h⟩:=h
  have sub:=sub_enumerate
  have tup:Heap.IsTuple (Shared.heap ⟨hp,g,d,tk,os⟩) a items:=⟨_,ht,rfl,n,rfl⟩
  wp_walk using wpAny_loadPart' ht
  refine wpAny_stack_any fun st=>wpAny_pure ?_
  split
  . rename_i c _ _ _ _ _
    cases (c == Value.type "enumerate")<;>(wp_walk using wpAny_loadPart' ht,wpAny_pyIter_tuple tup;exact⟨_,rfl,h⟩)
  . wp_walk using wpAny_loadPart' ht,wpAny_pyIter_tuple tup
    exact⟨_,rfl,h⟩
theorem sD {prog:Program}{w:World}{A:Around}{E:Value->Shared->Prop}{s:Shared}{a:Addr}{items:Array Value}{Q:Value->Shared->Prop}(ht:s.heap.IsTuple a items)
  (h:∀h',IsEnum h' (s.heap.objs.size+1) s.heap.objs.size 0 .none->h'.IsTupleIter s.heap.objs.size a 0->(∀b o,s.heap.get? b=some o->h'.get? b=some o)->Q (.ref (s.heap.objs.size+1)) { s with heap:=h' }) :
  wpAny (model prog w) A (call (.type "enumerate") [.ref a]) Q E s:=by
 obtain⟨⟨c,aQ,dt,sl⟩,e1,e2,n,e3⟩:=ht
 cases (show c = .type "tuple" from e2)
 cases (show dt = .seq items n from e3)
 refine callType_new F.called_enumerate (by decide) (F.typeCall_enumerate_1 _) (F.newCall_enumerate_1 _) (fun obj=>F.args_object_init_2 obj _) F.entry_enumerate_new (uA a items n aQ sl) ⟨e1,?_⟩
 have sz:(s.heap.push { cls:=.type "tuple_iterator",data:=.fields #[.ref a,.int 0 0] }).objs.size=s.heap.objs.size+1:=Heap.size_push ..
 have en:=Heap.get?_push_size (s.heap.push { cls:=.type "tuple_iterator",data:=.fields #[.ref a,.int 0 0] }) (o:={ cls:=.type "enumerate",data:=.fields #[.none,.bool false,.ref s.heap.objs.size,rawInt 0,.none,.none] }) rfl
 rw [sz] at en
 show _/\_
 rw [sz]
 exact⟨⟨_,en,rfl⟩,h _ en ⟨_,Heap.get?_push_of_some _ (Heap.get?_push_size _ rfl),rfl,rfl⟩ fun b o x=>Heap.get?_push_of_some _ (Heap.get?_push_of_some _ x)⟩
theorem jA {X:Cx}{pins:List (Addr×Obj)}{σ:L2.St}{H:Hp}{s:Shared}{h':Heap}{t':Nat}{ch:List Addr}(I:L2.Inv X pins σ H s)(k:∀b o,b ∉ ch->s.heap.get? b=some o->h'.get? b=some o)(hf:∀b∈ch,cE X pins H b) :
   L2.Inv X pins σ H { s with heap:=h',toks:=t' }:=by
 have nit:∀b u,H b=some u->b ∉ ch:=fun b u e z=>by rw [(hf b z).1] at e;cases e
 refine I.step (g':=s.gens) (d':=s.drawn) (ch:=ch) (fun b hb=>?_) (fun b o _ _ hc e _=>k b o hc e) (fun b o _ _ hc e _=>⟨o.slots,k b o hc e⟩) (fun _ _ _ _ n=>n)
   (fun b o hc e=>⟨o,k b o hc e⟩) (fun _ _ e=>e) (fun _ _ _ e=>e) (fun b ps e=>⟨#[],by rw [e];simp⟩) (fun m hm=>?_) (fun b u e=>?_) I.bare
 . obtain⟨f0,f1,f2,f3,f4,f5⟩:=hf b hb
   exact⟨f3,f1,f4,f5⟩
 . obtain⟨o,es,ep,ho,r⟩:=hm
   exact⟨o,es,ep,k _ o (fun z=>(hf _ z).2.1 rfl) ho,r⟩
 . refine(I.hok b u e).bX (fun c v hc q=>k c v ?_ q) (fun _ q=>q) fun _ _ q=>q
   rcases hc with z | z
   . rw [z];exact nit b u e
   . exact nit c _ z
def Aq (K:PySem.W.Frag)(a:Addr):It :=
 ⟨fun i H=>∃xs x,cq K H a xs/\xs[i]? = some x,fun i H x H'=>∃T v,x = .ref T/\H T=none/\H'=upd H T (.tup [.int i,v]) /\ ∀xs,cq K H a xs->xs[i]? = some v,fun i H=>∃xs,cq K H a xs/\xs.length<=i⟩
theorem sf {P:Program}{w:World}{K:PySem.W.Frag}{elts:List Expr}{kt:Nat}{tp:Pos}(a e it:Addr)(hei:e≠it):Turn P w K (.Tuple elts kt tp) (Aq K a) [e,it] e (fun i h=>(∃old,IsEnum h e it i old)/\h.IsTupleIter it a i) where
 mem:=by simp
 obj:=fun i h st b hb=>by
  obtain⟨⟨old,h1⟩,o,h2,h3,h4⟩:=st
  rcases List.mem_cons.mp hb with rfl | hb
  . exact⟨_,h1,fun v z=>by cases z⟩
  . have hb':b=it:=by simpa using hb
    subst hb'
    exact⟨o,h2,fun v z=>by rw [h4] at z;cases z⟩
 keep:=fun i h h' st k=>by
  obtain⟨⟨old,h1⟩,h2⟩:=st
  exact⟨⟨old,k e (by simp) _ h1⟩,h2.at fun o q=>k it (by simp) o q⟩
 item:=by
  intro X hP hw hK hc i pins s σ H E I hf st hg
  subst hP hw hK
  obtain⟨⟨old,h1⟩,h2⟩:=st
  obtain⟨xs,x,hq,hx⟩:=hg
  obtain⟨its,rv,p,hz⟩:=I.tuple hq
  obtain⟨u,hu,ru⟩:=rv.get hx
  have ai:a≠it:=fun z=>by
    obtain⟨o,q1,q2,_⟩:=p
    obtain⟨o',q3,q4,_⟩:=h2
    rw [z,q3] at q1
    cases q1
    rw [q4] at q2
    exact absurd q2 (by decide)
  have ae:e≠a:=fun z=>by
    obtain⟨o,q1,q2,_⟩:=p
    rw [<- z,h1] at q1
    cases q1
    exact absurd (show Value.type "enumerate" = Value.type "tuple" from q2) (by decide)
  have hi:i<its.toArray.size:=by
    have:=(List.getElem?_eq_some_iff.mp hu).1
    simpa using this
  refine wpAny_pyNext_enum_itemD (uz (A:=X.A.in1) (I.ok.hd hc) it a ai its.toArray) h1 ⟨h2,p⟩ hi hei (by simp [hei,ae]) fun x' h' tk hP hout hst hT hsz hk=>?_
  have ex:x'=u:=by
    have q:its.toArray[i]? = some x':=hP
    have q':its[i]? = some x':=by simpa using q
    rw [hu] at q'
    exact(Option.some.inj q').symm
  subst ex
  refine⟨_,rfl,wpAny_letOwnedTupleGo_enum hout fun h'' hen hs''=>?_⟩
  have I1:L2.Inv X pins σ (upd H s.heap.objs.size (.tup [.int i,x])) { s with heap:=s.heap.push { cls:=.type "tuple",data:=.seq #[.int i tk,x'] } } :=
    I.laid (t':=s.toks) (o:=.tup [.int i,x]) (fun b o q=>Heap.get?_push_of_some _ q) (Nat.le_refl _) (show cD X.prog X.w _ _ _ (.tup [.int i,x]) from⟨by show 2<=sizeLine;decide,[.int i tk,x'],.cons ⟨tk,rfl⟩ (.cons ru .nil),cN.new _ _⟩)
  have eT:e≠s.heap.objs.size:=Nat.ne_of_lt (Heap.lt_size h1)
  have iT:it≠s.heap.objs.size:=by
    obtain⟨o',q3,_⟩:=h2
    exact Nat.ne_of_lt (Heap.lt_size q3)
  have I2:L2.Inv X pins σ (upd H s.heap.objs.size (.tup [.int i,x])) { s with heap:=h'',toks:=tk+1 }:=jA (s:={ s with heap:=s.heap.push { cls:=.type "tuple",data:=.seq #[.int i tk,x'] } }) (ch:=[e,it]) I1 (fun b o hb q=>by
    simp only [List.mem_cons,List.mem_nil_iff,or_false,not_or] at hb
    have h3:h'.get? b=some o:=by
      by_cases hbT:b=s.heap.objs.size
      . subst hbT
        have:(s.heap.push { cls:=.type "tuple",data:=.seq #[.int i tk,x'] }).get? s.heap.objs.size=some o:=q
        rw [Heap.get?_push_size _ rfl] at this
        rw [<- this];exact hT
      . exact hk b o hb.1 hb.2 ((Heap.get?_push_ne s.heap b _ hbT).symm.trans q)
    exact(hs''.2 b hb.1).trans h3) (fun b hb=>by
      obtain⟨f0,f1,f2,f3,f4,f5⟩:=hf b hb
      refine⟨?_,f1,f2,f3,f4,f5⟩
      rcases List.mem_cons.mp hb with rfl | hb
      . rw [aJ eT];exact f0
      . have hb':b=it:=by simpa using hb
        subst hb'
        rw [aJ iT];exact f0)
  refine⟨.ref s.heap.objs.size,_,I2,rfl,⟨_,x,rfl,I.fresh,rfl,fun ys hy=>by rw [I.fD hy hq];exact hx⟩,⟨⟨_,by simpa using hen⟩,?_⟩,fun b hb=>?_⟩
  . exact hst.1.at fun o q=>(hs''.2 it (Ne.symm hei)).trans q
  . rcases List.mem_cons.mp hb with rfl | hb
    . rw [aJ eT];exact(hf _ (by simp)).1
    . have hb':b=it:=by simpa using hb
      subst hb'
      rw [aJ iT];exact(hf _ (by simp)).1
 done:=by
  intro X hP hw hK hc i pins s σ H E I hf st hg
  subst hP hw hK
  obtain⟨⟨old,h1⟩,h2⟩:=st
  obtain⟨xs,hq,hx⟩:=hg
  obtain⟨its,rv,p,hz⟩:=I.tuple hq
  have ai:a≠it:=fun z=>by
    obtain⟨o,q1,q2,_⟩:=p
    obtain⟨o',q3,q4,_⟩:=h2
    rw [z,q3] at q1
    cases q1
    rw [q4] at q2
    exact absurd q2 (by decide)
  have f:=hf it (by simp)
  have fin:∀h',Heap.ExtBut it s.heap h'->L2.Inv X pins σ H { s with heap:=h' }:=fun h' eb=>I.turned (t':=s.toks) (fun b o hb q=>eb b o hb q) f.1 f.2.1 f.2.2.2.1 f.2.2.2.2.1 f.2.2.2.2.2
  have hl:=rv.length
  exact wpAny_pyNext_enum_endD (ua (A:=X.A.in1) (I.ok.hd hc) it a its.toArray i (by simp;omega)) h1 ⟨rfl,h2,p⟩ fun h' eb=>⟨rfl,fin h' eb⟩
 self:=fun _ _ _ _ _ st h=>wpAny_pyIter_enum st.1.choose_spec h
theorem r6 {prog:Program}{w:World}{A:Around}(hh:A.handled=none)(it a:Addr)(items:Array Value)(n:Nat)(hn:items.size<=n) :
  Draws prog w A it [it,a] n (fun _ _=>True) (fun j h=>j=n/\h.IsListIter it a n/\h.IsList a items) where
 live:=fun _ _ st=>let⟨o,ho,_⟩:=st.2.1;⟨o,ho⟩
 frame:=fun _ _ _ st hk=>⟨st.1,st.2.1.at fun o e=>hk it (by simp) o e,st.2.2.at fun o e=>hk a (by simp) o e⟩
 item:=fun i s Q E hi st hQ=>absurd st.1 (Nat.ne_of_lt hi)
 done:=fun s Q E st hE=>wpAny_nextOf_list_end hh st.2.1 st.2.2 (by simp;exact hn) hE
def Cd (K:PySem.W.Frag)(a:Addr):It :=
 ⟨fun i H=>∃xs x,cw K H a xs/\xs[i]? = some x,fun i H x H'=>∃T v,x = .ref T/\H T=none/\H'=upd H T (.tup [.int i,v]) /\ ∀xs,cw K H a xs->xs[i]? = some v,fun i H=>∃xs,cw K H a xs/\xs.length<=i⟩
theorem rk {P:Program}{w:World}{K:PySem.W.Frag}{elts:List Expr}{kt:Nat}{tp:Pos}(a e it:Addr)(hei:e≠it):Turn P w K (.Tuple elts kt tp) (Cd K a) [e,it] e (fun i h=>(∃old,IsEnum h e it i old)/\h.IsListIter it a i) where
 mem:=by simp
 obj:=fun i h st b hb=>by
  obtain⟨⟨old,h1⟩,o,h2,h3,h4⟩:=st
  rcases List.mem_cons.mp hb with rfl | hb
  . exact⟨_,h1,fun v z=>by cases z⟩
  . have hb':b=it:=by simpa using hb
    subst hb'
    exact⟨o,h2,fun v z=>by rw [h4] at z;cases z⟩
 keep:=fun i h h' st k=>by
  obtain⟨⟨old,h1⟩,h2⟩:=st
  exact⟨⟨old,k e (by simp) _ h1⟩,h2.at fun o q=>k it (by simp) o q⟩
 item:=by
  intro X hP hw hK hc i pins s σ H E I hf st hg
  subst hP hw hK
  obtain⟨⟨old,h1⟩,h2⟩:=st
  obtain⟨xs,x,hq,hx⟩:=hg
  obtain⟨its,rv,p,hz⟩:=I.list hq
  obtain⟨u,hu,ru⟩:=rv.get hx
  have ai:a≠it:=fun z=>by
    obtain⟨o,q1,q2,_⟩:=p.isList
    obtain⟨o',q3,q4,_⟩:=h2
    rw [z,q3] at q1
    cases q1
    rw [q4] at q2
    exact absurd q2 (by decide)
  have ae:e≠a:=fun z=>by
    obtain⟨o,q1,q2,_⟩:=p.isList
    rw [<- z,h1] at q1
    cases q1
    exact absurd (show Value.type "enumerate" = Value.type "list" from q2) (by decide)
  have hi:i<its.toArray.size:=by
    have:=(List.getElem?_eq_some_iff.mp hu).1
    simpa using this
  refine wpAny_pyNext_enum_itemD (Draws.list (A:=X.A.in1) (I.ok.hd hc) it a ai its.toArray) h1 ⟨h2,p.isList⟩ hi hei (by simp [hei,ae]) fun x' h' tk hP hout hst hT hsz hk=>?_
  have ex:x'=u:=by
    have q:its.toArray[i]? = some x':=hP
    have q':its[i]? = some x':=by simpa using q
    rw [hu] at q'
    exact(Option.some.inj q').symm
  subst ex
  refine⟨_,rfl,wpAny_letOwnedTupleGo_enum hout fun h'' hen hs''=>?_⟩
  have I1:L2.Inv X pins σ (upd H s.heap.objs.size (.tup [.int i,x])) { s with heap:=s.heap.push { cls:=.type "tuple",data:=.seq #[.int i tk,x'] } } :=
    I.laid (t':=s.toks) (o:=.tup [.int i,x]) (fun b o q=>Heap.get?_push_of_some _ q) (Nat.le_refl _) (show cD X.prog X.w _ _ _ (.tup [.int i,x]) from⟨by show 2<=sizeLine;decide,[.int i tk,x'],.cons ⟨tk,rfl⟩ (.cons ru .nil),cN.new _ _⟩)
  have eT:e≠s.heap.objs.size:=Nat.ne_of_lt (Heap.lt_size h1)
  have iT:it≠s.heap.objs.size:=by
    obtain⟨o',q3,_⟩:=h2
    exact Nat.ne_of_lt (Heap.lt_size q3)
  have I2:L2.Inv X pins σ (upd H s.heap.objs.size (.tup [.int i,x])) { s with heap:=h'',toks:=tk+1 }:=jA (s:={ s with heap:=s.heap.push { cls:=.type "tuple",data:=.seq #[.int i tk,x'] } }) (ch:=[e,it]) I1 (fun b o hb q=>by
    simp only [List.mem_cons,List.mem_nil_iff,or_false,not_or] at hb
    have h3:h'.get? b=some o:=by
      by_cases hbT:b=s.heap.objs.size
      . subst hbT
        have:(s.heap.push { cls:=.type "tuple",data:=.seq #[.int i tk,x'] }).get? s.heap.objs.size=some o:=q
        rw [Heap.get?_push_size _ rfl] at this
        rw [<- this];exact hT
      . exact hk b o hb.1 hb.2 ((Heap.get?_push_ne s.heap b _ hbT).symm.trans q)
    exact(hs''.2 b hb.1).trans h3) (fun b hb=>by
      obtain⟨f0,f1,f2,f3,f4,f5⟩:=hf b hb
      refine⟨?_,f1,f2,f3,f4,f5⟩
      rcases List.mem_cons.mp hb with rfl | hb
      . rw [aJ eT];exact f0
      . have hb':b=it:=by simpa using hb
        subst hb'
        rw [aJ iT];exact f0)
  refine⟨.ref s.heap.objs.size,_,I2,rfl,⟨_,x,rfl,I.fresh,rfl,fun ys hy=>by rw [I.jV hy hq];exact hx⟩,⟨⟨_,by simpa using hen⟩,?_⟩,fun b hb=>?_⟩
  . exact hst.1.at fun o q=>(hs''.2 it (Ne.symm hei)).trans q
  . rcases List.mem_cons.mp hb with rfl | hb
    . rw [aJ eT];exact(hf _ (by simp)).1
    . have hb':b=it:=by simpa using hb
      subst hb'
      rw [aJ iT];exact(hf _ (by simp)).1
 done:=by
  intro X hP hw hK hc i pins s σ H E I hf st hg
  subst hP hw hK
  obtain⟨⟨old,h1⟩,h2⟩:=st
  obtain⟨xs,hq,hx⟩:=hg
  obtain⟨its,rv,p,hz⟩:=I.list hq
  have ai:a≠it:=fun z=>by
    obtain⟨o,q1,q2,_⟩:=p.isList
    obtain⟨o',q3,q4,_⟩:=h2
    rw [z,q3] at q1
    cases q1
    rw [q4] at q2
    exact absurd q2 (by decide)
  have f:=hf it (by simp)
  have fin:∀h',Heap.ExtBut it s.heap h'->L2.Inv X pins σ H { s with heap:=h' }:=fun h' eb=>I.turned (t':=s.toks) (fun b o hb q=>eb b o hb q) f.1 f.2.1 f.2.2.2.1 f.2.2.2.2.1 f.2.2.2.2.2
  have hl:=rv.length
  exact wpAny_pyNext_enum_endD (r6 (A:=X.A.in1) (I.ok.hd hc) it a its.toArray i (by simp;omega)) h1 ⟨rfl,h2,p.isList⟩ fun h' eb=>⟨rfl,fin h' eb⟩
 self:=fun _ _ _ _ _ st h=>wpAny_pyIter_enum st.1.choose_spec h
def b6 (xs:List D):List D:=xs.zipIdx.map fun p=>.tup [.int (p.2:Nat),p.1]
def uj (f:FE):FI:=fun σ g=>(f σ g).bind fun r=>match r.1 with | .tup xs=>some (b6 xs,r.2) | _=>none
theorem et.EE {K H ι a vs ds}(hq:ic K H ι a vs)(hr:ag K H ι ds vs):et K (Aq K a) H ι (b6 ds):=fun i H1 ι1 g1 e1 G1 =>
 ⟨fun hl=>⟨vs,(hq.bV e1).sq,by rw [<- hr.length];simpa [b6] using hl⟩,fun d hd=>by
  unfold b6 at hd
  rw [List.getElem?_map,List.getElem?_zipIdx] at hd
  cases hx:ds[i]? with
  | none=>rw [hx] at hd;cases hd
  | some d0 =>
   rw [hx] at hd
   simp only [Option.map_some,Option.some.injEq,Nat.zero_add] at hd
   subst hd
   obtain⟨v,hv,rv⟩:=(ag.bV e1 _ hr).get hx
   refine⟨⟨vs,v,(hq.bV e1).sq,hv⟩,fun x H2 y=>?_⟩
   obtain⟨T,v',rfl,hn,rfl,hy⟩:=y
   have:=hy vs (hq.bV e1).sq
   rw [hv] at this
   cases this
   refine⟨Ext.lay hn,G1.lay hn,?_⟩
   simp only [Rel]
   refine⟨T,_,rfl,.inl ⟨.inl aR,G1.fresh hn⟩,?_⟩
   simp only [ag,Rel]
   exact⟨_,_,rfl,rfl,_,_,rfl,Rel.ext (Ext.lay hn) _ rv,rfl⟩⟩
theorem vg {X:Cx}{l:Expr}{fe:FE}{p pos tp:Pos}{elts:List Expr}{kt:Nat}(hg:Gl X "enumerate")(hm:X.mg "enumerate" = none)(hl:DE X l fe)
  (hs:starEach [l] X.env = [(false,eval l X.env)]:=by rfl):DI X (.Tuple elts kt tp) (.Call (.Name "enumerate" p) [l] [] pos) (uj fe):=.of (by
 intro pins s σ H R I h
 obtain⟨ι,σd,g,ds,g',G0,S0,h,q⟩:=h
 obtain⟨⟨d1,g1⟩,h1,h⟩:=bind_some h
 cases d1 with
 | tup xs =>
  cases h
  refine Call_ (c_ I hg hm PyProof.Rows.boot_enumerate (PyProof.Rows.callWith_type1 (aI ((e_ hl.un jf hs) pos pins s σ H (fun vs H1=>∃v ι1,vs = [v]/\Ext H ι H1 ι1/\au X.kw H1 ι1 g1/\Rel X.kw H1 ι1 (.tup xs) v) I ?_) fun us s1 ⟨vs,H1,I1,r1,v,ι1,e0,e1,G1,rd⟩=>?_) hs rfl))
  . exact⟨ι,σd,g,_,g1,G0,S0,h1,fun H1 ι1 v e1 G1 r1=>⟨v,ι1,rfl,e1,G1,r1⟩⟩
  . subst e0
    obtain⟨u,rfl,ru⟩:=vals1 r1
    simp only [Rel] at rd
    obtain⟨a,vs,rfl,hq,hr⟩:=rd
    cases ru
    obtain⟨its,rv,pt,hz⟩:=I1.tuple hq.sq
    refine sD (show s1.heap.IsTuple a its.toArray from pt) fun h' hen hti hk=>?_
    refine wpAny_pyIter_enum hen ?_
    have hne:s1.heap.objs.size+1≠s1.heap.objs.size:=Nat.succ_ne_self _
    refine⟨s1.heap.objs.size+1,[s1.heap.objs.size+1,s1.heap.objs.size],_,_,H1,rfl,I1.kept (t':=s1.toks) hk,sf a _ _ hne,⟨⟨_,hen⟩,hti⟩,fun b hb=>?_,q H1 ι1 _ e1 G1 (.EE hq hr)⟩
    rcases List.mem_cons.mp hb with rfl | hb
    . exact I1.fF (Nat.le_succ _) (I1.hok.fresh (Nat.le_succ _))
    . have hb':b=s1.heap.objs.size:=by simpa using hb
      subst hb'
      exact I1.fF (Nat.le_refl _) (I1.hok.fresh (Nat.le_refl _))
 | _=>cases h)
def sT (f:FE):FI:=fun σ g=>(f σ g).bind fun r=>match r.1 with | .lst xs=>some (b6 xs,r.2) | _=>none
theorem et.EK {K H ι a vs ds}(hq:iR K H ι a vs)(hr:ag K H ι ds vs):et K (Cd K a) H ι (b6 ds):=fun i H1 ι1 g1 e1 G1 =>
 ⟨fun hl=>⟨vs,(hq.bV e1).sq,by rw [<- hr.length];simpa [b6] using hl⟩,fun d hd=>by
  unfold b6 at hd
  rw [List.getElem?_map,List.getElem?_zipIdx] at hd
  cases hx:ds[i]? with
  | none=>rw [hx] at hd;cases hd
  | some d0 =>
   rw [hx] at hd
   simp only [Option.map_some,Option.some.injEq,Nat.zero_add] at hd
   subst hd
   obtain⟨v,hv,rv⟩:=(ag.bV e1 _ hr).get hx
   refine⟨⟨vs,v,(hq.bV e1).sq,hv⟩,fun x H2 y=>?_⟩
   obtain⟨T,v',rfl,hn,rfl,hy⟩:=y
   have:=hy vs (hq.bV e1).sq
   rw [hv] at this
   cases this
   refine⟨Ext.lay hn,G1.lay hn,?_⟩
   simp only [Rel]
   refine⟨T,_,rfl,.inl ⟨.inl aR,G1.fresh hn⟩,?_⟩
   simp only [ag,Rel]
   exact⟨_,_,rfl,rfl,_,_,rfl,Rel.ext (Ext.lay hn) _ rv,rfl⟩⟩
theorem vD {X:Cx}{l:Expr}{fe:FE}{p pos tp:Pos}{elts:List Expr}{kt:Nat}(hg:Gl X "enumerate")(hm:X.mg "enumerate" = none)(hl:DE X l fe)
  (hs:starEach [l] X.env = [(false,eval l X.env)]:=by rfl):DI X (.Tuple elts kt tp) (.Call (.Name "enumerate" p) [l] [] pos) (sT fe):=.of (by
 intro pins s σ H R I h
 obtain⟨ι,σd,g,ds,g',G0,S0,h,q⟩:=h
 obtain⟨⟨d1,g1⟩,h1,h⟩:=bind_some h
 cases d1 with
 | lst xs =>
  cases h
  refine Call_ (c_ I hg hm PyProof.Rows.boot_enumerate (PyProof.Rows.callWith_type1 (aI ((e_ hl.un jf hs) pos pins s σ H (fun vs H1=>∃v ι1,vs = [v]/\Ext H ι H1 ι1/\au X.kw H1 ι1 g1/\Rel X.kw H1 ι1 (.lst xs) v) I ?_) fun us s1 ⟨vs,H1,I1,r1,v,ι1,e0,e1,G1,rd⟩=>?_) hs rfl))
  . exact⟨ι,σd,g,_,g1,G0,S0,h1,fun H1 ι1 v e1 G1 r1=>⟨v,ι1,rfl,e1,G1,r1⟩⟩
  . subst e0
    obtain⟨u,rfl,ru⟩:=vals1 r1
    simp only [Rel] at rd
    obtain⟨a,vs,rfl,hq,hr⟩:=rd
    cases ru
    obtain⟨its,rv,pt,hz⟩:=I1.list hq.sq
    refine call_enumerate_list pt.isList fun h' hen hti _ hk=>?_
    refine wpAny_pyIter_enum hen ?_
    have hne:s1.heap.objs.size+1≠s1.heap.objs.size:=Nat.succ_ne_self _
    refine⟨s1.heap.objs.size+1,[s1.heap.objs.size+1,s1.heap.objs.size],_,_,H1,rfl,I1.kept (t':=s1.toks) hk,rk a _ _ hne,⟨⟨_,hen⟩,hti⟩,fun b hb=>?_,q H1 ι1 _ e1 G1 (.EK hq hr)⟩
    rcases List.mem_cons.mp hb with rfl | hb
    . exact I1.fF (Nat.le_succ _) (I1.hok.fresh (Nat.le_succ _))
    . have hb':b=s1.heap.objs.size:=by simpa using hb
      subst hb'
      exact I1.fF (Nat.le_refl _) (I1.hok.fresh (Nat.le_refl _))
 | _=>cases h)
def eK (f:FE):FI:=fun σ g=>(f σ g).bind fun r=>match r.1 with | .tup xs=>some (b6 xs,r.2) | .lst xs=>some (b6 xs,r.2) | _=>none
theorem yh {X:Cx}{l:Expr}{fe:FE}{p pos tp:Pos}{elts:List Expr}{kt:Nat}(hg:Gl X "enumerate")(hm:X.mg "enumerate" = none)(hl:DE X l fe)
  (hs:starEach [l] X.env = [(false,eval l X.env)]:=by rfl):DI X (.Tuple elts kt tp) (.Call (.Name "enumerate" p) [l] [] pos) (eK fe):=.of (by
 intro pins s σ H R I h
 obtain⟨ι,σd,g,ds,g',G0,S0,h,q⟩:=h
 obtain⟨⟨d1,g1⟩,h1,h2⟩:=bind_some h
 cases d1 with
 | tup xs=>exact(vg hg hm hl hs).un pins s σ H R I ⟨ι,σd,g,ds,g',G0,S0,by unfold uj;rw [h1];exact h2,q⟩
 | lst xs=>exact(vD hg hm hl hs).un pins s σ H R I ⟨ι,σd,g,ds,g',G0,S0,by unfold sT;rw [h1];exact h2,q⟩
 | _=>cases h2)
@[simp] theorem HV {fa:FE}{σ:Sg}{g:G}:eK fa σ g=(fa σ g).bind fun r=>match r.1 with | .tup xs=>some (b6 xs,r.2) | .lst xs=>some (b6 xs,r.2) | _=>none:=rfl
section
variable {σ:Sg}{g:G}{fa fb fo fx:FE}{fr:FA}
@[simp] theorem IG {i j:Nat}:fJ i j fr σ g=(fr σ g).bind fun r=>match r.1 with
 | [a,b]=>some (.nx,(σ.set i (some a)).set j (some b),r.2)
 | _=>none:=rfl
end
section
variable {σ:Sg}{g:G}{fa fb:FE}
@[simp] theorem DV:gJ .non g=some false:=rfl
@[simp] theorem Ek {xs:List D}:gJ (.tup xs) g=some (!xs.isEmpty):=rfl
@[simp] theorem EL {xs:List D}:gJ (.lst xs) g=some (!xs.isEmpty):=rfl
end
structure ZA (z ti tu j1 j2 a1 a2:Addr):Prop where
 n1:ti≠z
 n2:tu≠z
 n3:j1≠z
 n4:j2≠z
 n5:ti≠tu
 n6:tu≠j1
 n7:tu≠j2
 n8:j1≠j2
 n9:ti≠j1
 n10:ti≠j2
 m1:a1≠z/\a1≠tu/\a1≠j1/\a1≠j2
 m2:a2≠z/\a2≠tu/\a2≠j1/\a2≠j2
def bX (cs:List Addr)(h h':Heap):Prop:=∀c o,c ∉ cs->h.get? c=some o->h'.get? c=some o
theorem bX.tr {cs h h1 h2}(a:bX cs h h1)(b:bX cs h1 h2):bX cs h h2:=fun c o n e=>b c o n (a c o n e)
theorem bX.of {cs h h1 c}(a:Heap.SameBut c h h1)(m:c∈cs):bX cs h h1:=fun b o n e=>(a.2 b fun z=>n (z ▸ m)).trans e
section
variable {prog:Program}{w:World}{A:Around}{E:Value->Shared->Prop}{s:Shared}
theorem tO {z ti tu j1 j2 a1 a2:Addr}{k1 k2:Nat}{xs ys:Array Value}{x y p q:Value}{Q:Value->Shared->Prop}(D:ZA z ti tu j1 j2 a1 a2)(hz:IsZip s.heap z ti tu .none)(hti:IsPair s.heap ti (.ref j1) (.ref j2))(htu:IsPair s.heap tu p q)
  (t1:s.heap.IsTupleIter j1 a1 k1) (t2:s.heap.IsTupleIter j2 a2 k2) (s1:s.heap.IsTuple a1 xs) (s2:s.heap.IsTuple a2 ys) (ex:xs[k1]? = some x) (ey:ys[k2]? = some y)
  (hQ:∀h',IsZip h' z ti tu (rawInt s.heap.objs.size)->IsPair h' tu x y->h'.IsTupleIter j1 a1 (k1+1)->h'.IsTupleIter j2 a2 (k2+1)->IsPair h' s.heap.objs.size x y->bX [z,tu,j1,j2] s.heap h'->Q (.ref s.heap.objs.size) { s with heap:=h' }) :
  wpAny (model prog w) A (Builtin.«zip.__next__» ⟨[.ref z],[]⟩) (fun fin s'=>∃v,fin = .done (.ret v)/\Q v s') E s:=by
 change wpAny _ _ (field (.ref z) 2 >>= fun _=>_) _ _ _
 refine wpAny_bind (wpAny_field hz rfl (x:=.bool false) rfl ?_)
 change wpAny _ _ (field (.ref z) 3 >>= fun _=>_) _ _ _
 refine wpAny_bind (wpAny_field hz rfl (x:=.ref ti) rfl ?_)
 refine wpAny_bind (wpAny_seqItems hti rfl ?_)
 change wpAny _ _ (Builtin.SmallTypes.ownedTupleIsFree (.ref z) >>= fun _=>_) _ _ _
 refine wpAny_bind ?_
 unfold Builtin.SmallTypes.ownedTupleIsFree
 refine wpAny_bind (wpAny_field hz rfl (x:=.none) rfl (wpAny_pure ?_))
 simp only [if_true]
 refine wpAny_bind (wpAny_rule (wpAny_bind (wpAny_field hz rfl (x:=.ref tu) rfl (wpAny_bind (wpAny_setField_rec hz (by simp) fun b1 z1 c1=>wpAny_bind ?_)))))
 simp only [List.zipIdx_cons,List.zipIdx_nil,List.forIn_cons,List.forIn_nil]
 have y1:IsZip b1 z ti tu .ellipsis:=z1
 have v1:=c1.2
 refine wpAny_bind (wpAny_bind (wpAny_onRaise ?_))
 change wpAny _ _ (Builtin.SmallTypes.nextOf (.ref j1) >>= fun _=>_) _ _ _
 refine wpAny_bind (dW (t1.at fun o e=>(v1 _ D.n3).trans e) (s1.extBut c1.extBut D.m1.1) ex fun b2 u2 c2=>wpAny_pure ?_)
 have w2:IsPair b2 tu p q:=(c2.2 _ D.n6).trans ((v1 _ D.n2).trans htu)
 refine wpAny_bind (wpAny_seqItems w2 rfl (wpAny_bind (wpAny_updateSeq_pair w2 fun b3 w3 c3=>wpAny_bind (wpAny_letGo (wpAny_pure ?_)))))
 have w3':IsPair b3 tu x q:=w3
 refine wpAny_bind (wpAny_bind (wpAny_onRaise ?_))
 change wpAny _ _ (Builtin.SmallTypes.nextOf (.ref j2) >>= fun _=>_) _ _ _
 have i2:b3.IsTupleIter j2 a2 k2:=t2.at fun o e=>(c3.2 _ (Ne.symm D.n7)).trans ((c2.2 _ (Ne.symm D.n8)).trans ((v1 _ D.n4).trans e))
 have l2:b3.IsTuple a2 ys:=((s2.extBut c1.extBut D.m2.1).extBut c2.extBut D.m2.2.2.1).extBut c3.extBut D.m2.2.1
 refine wpAny_bind (dW i2 l2 ey fun b4 u4 c4=>wpAny_pure ?_)
 have w4:IsPair b4 tu x q:=(c4.2 _ D.n7).trans w3'
 refine wpAny_bind (wpAny_seqItems w4 rfl (wpAny_bind (wpAny_updateSeq_pair w4 fun b5 w5 c5=>wpAny_bind (wpAny_letGo (wpAny_pure (wpAny_pure ?_))))))
 have w5':IsPair b5 tu x y:=w5
 refine wpAny_bind (wpAny_seqItems w5' rfl (wpAny_bind (wpAny_newTuple ?_)))
 have sz:b5.objs.size=s.heap.objs.size:=by rw [c5.1,c4.1,c3.1,c2.1,c1.1]
 have y5:IsZip b5 z ti tu .ellipsis:=(c5.2 _ (Ne.symm D.n2)).trans ((c4.2 _ (Ne.symm D.n4)).trans ((c3.2 _ (Ne.symm D.n2)).trans ((c2.2 _ (Ne.symm D.n3)).trans y1)))
 have r1:b5.IsTupleIter j1 a1 (k1+1):=u2.at fun o e=>(c5.2 _ (Ne.symm D.n6)).trans ((c4.2 _ D.n8).trans ((c3.2 _ (Ne.symm D.n6)).trans e))
 have r2:b5.IsTupleIter j2 a2 (k2+1):=u4.at fun o e=>(c5.2 _ (Ne.symm D.n7)).trans e
 have far:bX [z,tu,j1,j2] s.heap b5:=((((bX.of c1 (by simp)).tr (bX.of c2 (by simp))).tr (bX.of c3 (by simp))).tr (bX.of c4 (by simp))).tr (bX.of c5 (by simp))
 change wpAny _ _ (Builtin.SmallTypes.ownedTupleHandOut (.ref z) (.ref b5.objs.size) >>= fun _=>_) _ _ _
 refine wpAny_bind ?_
 unfold Builtin.SmallTypes.ownedTupleHandOut
 have y6:IsZip (b5.push { cls:=.type "tuple",data:=.seq #[x,y] }) z ti tu .ellipsis:=Heap.get?_push_of_some _ y5
 refine wpAny_bind (wpAny_setField_rec y6 (by simp) fun b7 z7 c7=>?_)
 have y7:IsZip b7 z ti tu (rawInt b5.objs.size):=z7
 refine wpAny_setField_rec y7 (by simp) fun b8 z8 c8=>wpAny_pure ⟨_,rfl,?_⟩
 have y8:IsZip b8 z ti tu (rawInt b5.objs.size):=z8
 have zlt:z<b5.objs.size:=Heap.lt_size y5
 have up:∀c o,c≠z->b5.get? c=some o->b8.get? c=some o:=fun c o n e=>(c8.2 c n).trans ((c7.2 c n).trans (Heap.get?_push_of_some _ e))
 have T8:IsPair b8 b5.objs.size x y:=(c8.2 _ (Nat.ne_of_gt zlt)).trans ((c7.2 _ (Nat.ne_of_gt zlt)).trans (Heap.get?_push_size _ rfl))
 change Q (.ref b5.objs.size) _
 rw [sz] at y8 T8 ⊢
 exact hQ b8 y8 (up _ _ D.n2 w5') (r1.at fun o e=>up _ o D.n3 e) (r2.at fun o e=>up _ o D.n4 e) T8 fun c o n e=>up c o (fun q=>n (by simp [q])) (far c o n e)
theorem wb {z ti tu j1 j2 a1 a2:Addr}{k1 k2:Nat}{xs ys:Array Value}{p q:Value}{Q:Fin->Shared->Prop}(hh:A.handled=none)(D:ZA z ti tu j1 j2 a1 a2)(hz:IsZip s.heap z ti tu .none)(hti:IsPair s.heap ti (.ref j1) (.ref j2))(htu:IsPair s.heap tu p q)
  (t1:s.heap.IsTupleIter j1 a1 k1) (t2:s.heap.IsTupleIter j2 a2 k2) (s1:s.heap.IsTuple a1 xs) (s2:s.heap.IsTuple a2 ys) (hend:xs[k1]? = none\/ys[k2]? = none)
  (hE:∀h' e,bX [z,tu,j1,j2] s.heap h'->(∃o,h'.get? e=some o/\o.cls = .type "StopIteration")->E (.ref e) { s with heap:=h' }):wpAny (model prog w) A (Builtin.«zip.__next__» ⟨[.ref z],[]⟩) Q E s:=by
 change wpAny _ _ (field (.ref z) 2 >>= fun _=>_) _ _ _
 refine wpAny_bind (wpAny_field hz rfl (x:=.bool false) rfl ?_)
 change wpAny _ _ (field (.ref z) 3 >>= fun _=>_) _ _ _
 refine wpAny_bind (wpAny_field hz rfl (x:=.ref ti) rfl ?_)
 refine wpAny_bind (wpAny_seqItems hti rfl ?_)
 change wpAny _ _ (Builtin.SmallTypes.ownedTupleIsFree (.ref z) >>= fun _=>_) _ _ _
 refine wpAny_bind ?_
 unfold Builtin.SmallTypes.ownedTupleIsFree
 refine wpAny_bind (wpAny_field hz rfl (x:=.none) rfl (wpAny_pure ?_))
 simp only [if_true]
 refine wpAny_bind (wpAny_rule (wpAny_bind (wpAny_field hz rfl (x:=.ref tu) rfl (wpAny_bind (wpAny_setField_rec hz (by simp) fun b1 z1 c1=>wpAny_bind ?_)))))
 simp only [List.zipIdx_cons,List.zipIdx_nil,List.forIn_cons,List.forIn_nil]
 have y1:IsZip b1 z ti tu .ellipsis:=z1
 have v1:=c1.2
 refine wpAny_bind (wpAny_bind (wpAny_onRaise ?_))
 change wpAny _ _ (Builtin.SmallTypes.nextOf (.ref j1) >>= fun _=>_) _ _ _
 have i1:b1.IsTupleIter j1 a1 k1:=t1.at fun o e=>(v1 _ D.n3).trans e
 have l1:b1.IsTuple a1 xs:=s1.extBut c1.extBut D.m1.1
 have ez:∀{b:Heap} {e:Addr} {oe:Obj},IsZip b z ti tu .ellipsis->b.get? e=some oe->oe.cls = .type "StopIteration"->e≠z:=fun yb q1 q2 x=>by
  subst x
  rw [yb] at q1
  cases q1
  exact absurd (show Value.type "zip" = Value.type "StopIteration" from q2) (by decide)
 cases hx:xs[k1]? with
 | none =>
  refine wpAny_bind (eJ hh i1 l1 hx fun b2 e c2 he=>?_)
  obtain⟨oe,q1,q2⟩:=he
  have y2:IsZip b2 z ti tu .ellipsis:=c2 _ _ (Ne.symm D.n3) y1
  refine wpAny_setField_rec y2 (by simp) fun b3 _ c3=>hE b3 e ?_ ⟨oe,(c3.2 _ (ez y2 q1 q2)).trans q1,q2⟩
  exact((bX.of c1 (by simp)).tr fun c o n e=>c2 c o (fun q=>n (by simp [q])) e).tr (bX.of c3 (by simp))
 | some x =>
  have hy:ys[k2]? = none:=by
   rcases hend with h | h
   . rw [hx] at h;cases h
   . exact h
  refine wpAny_bind (dW i1 l1 hx fun b2 u2 c2=>wpAny_pure ?_)
  have w2:IsPair b2 tu p q:=(c2.2 _ D.n6).trans ((v1 _ D.n2).trans htu)
  refine wpAny_bind (wpAny_seqItems w2 rfl (wpAny_bind (wpAny_updateSeq_pair w2 fun b3 w3 c3=>wpAny_bind (wpAny_letGo (wpAny_pure ?_)))))
  refine wpAny_bind (wpAny_bind (wpAny_onRaise ?_))
  change wpAny _ _ (Builtin.SmallTypes.nextOf (.ref j2) >>= fun _=>_) _ _ _
  have i2:b3.IsTupleIter j2 a2 k2:=t2.at fun o e=>(c3.2 _ (Ne.symm D.n7)).trans ((c2.2 _ (Ne.symm D.n8)).trans ((v1 _ D.n4).trans e))
  have l2:b3.IsTuple a2 ys:=((s2.extBut c1.extBut D.m2.1).extBut c2.extBut D.m2.2.2.1).extBut c3.extBut D.m2.2.1
  refine wpAny_bind (eJ hh i2 l2 hy fun b4 e c4 he=>?_)
  obtain⟨oe,q1,q2⟩:=he
  have y4:IsZip b4 z ti tu .ellipsis:=c4 _ _ (Ne.symm D.n4) ((c3.2 _ (Ne.symm D.n2)).trans ((c2.2 _ (Ne.symm D.n3)).trans y1))
  refine wpAny_setField_rec y4 (by simp) fun b5 _ c5=>hE b5 e ?_ ⟨oe,(c5.2 _ (ez y4 q1 q2)).trans q1,q2⟩
  exact((((bX.of c1 (by simp)).tr (bX.of c2 (by simp))).tr (bX.of c3 (by simp))).tr fun c o n e=>c4 c o (fun q=>n (by simp [q])) e).tr (bX.of c5 (by simp))
end
section
variable {prog:Program}{w:World}{A:Around}{E:Value->Shared->Prop}{s:Shared}
theorem sx {z ti tu j1 j2 a1 a2:Addr}{k1 k2:Nat}{xs ys:Array Value}{x y p q:Value}{Q:Option Value->Shared->Prop}(D:ZA z ti tu j1 j2 a1 a2)(hz:IsZip s.heap z ti tu .none)(hti:IsPair s.heap ti (.ref j1) (.ref j2))(htu:IsPair s.heap tu p q)
  (t1:s.heap.IsTupleIter j1 a1 k1) (t2:s.heap.IsTupleIter j2 a2 k2) (s1:s.heap.IsTuple a1 xs) (s2:s.heap.IsTuple a2 ys) (ex:xs[k1]? = some x) (ey:ys[k2]? = some y)
  (hQ:∀h',IsZip h' z ti tu (rawInt s.heap.objs.size)->IsPair h' tu x y->h'.IsTupleIter j1 a1 (k1+1)->h'.IsTupleIter j2 a2 (k2+1)->IsPair h' s.heap.objs.size x y->bX [z,tu,j1,j2] s.heap h'->Q (some (.ref s.heap.objs.size)) { s with heap:=h' }) :
  wpAny (model prog w) A (pyNext (.ref z)) Q E s:=by
 have ty:s.TypeIs (.ref z) "zip":=⟨_,hz,rfl⟩
 unfold pyNext
 exact wpAny_bind (wpAny_attempt (wpAny_callSpecial?_slot (name:=Str.ofString "__next__") ty F.slot_zip_next (wpAny_call_entry F.slot_zip_next ty F.entry_zip_next (tO D hz hti htu t1 t2 s1 s2 ex ey fun h' q1 q2 q3 q4 q5 q6=>wpAny_pure (hQ h' q1 q2 q3 q4 q5 q6)) (F.args_zip_next_1 _))))
theorem sW {z ti tu j1 j2 a1 a2:Addr}{k1 k2:Nat}{xs ys:Array Value}{p q:Value}{Q:Option Value->Shared->Prop}(hh:A.handled=none)(D:ZA z ti tu j1 j2 a1 a2)(hz:IsZip s.heap z ti tu .none)(hti:IsPair s.heap ti (.ref j1) (.ref j2))(htu:IsPair s.heap tu p q)
  (t1:s.heap.IsTupleIter j1 a1 k1) (t2:s.heap.IsTupleIter j2 a2 k2) (s1:s.heap.IsTuple a1 xs) (s2:s.heap.IsTuple a2 ys) (hend:xs[k1]? = none\/ys[k2]? = none)
  (hQ:∀h',bX [z,tu,j1,j2] s.heap h'->Q none { s with heap:=h' }):wpAny (model prog w) A (pyNext (.ref z)) Q E s:=by
 have ty:s.TypeIs (.ref z) "zip":=⟨_,hz,rfl⟩
 unfold pyNext
 refine wpAny_bind (wpAny_attempt (wpAny_callSpecial?_slot (name:=Str.ofString "__next__") ty F.slot_zip_next (wpAny_call_entry F.slot_zip_next ty F.entry_zip_next (wb hh D hz hti htu t1 t2 s1 s2 hend fun h' e hk he=>?_) (F.args_zip_next_1 _))))
 obtain⟨o,ho,hc⟩:=he
 exact wpAny_bind (wpAny_isInstance (T:="StopIteration") (b:=true) ⟨o,ho,hc⟩ isSubtype_stop (wpAny_pure (hQ _ hk)))
end
abbrev tQ (h:Heap)(a:Addr):Heap:=h.push { cls:=.type "tuple_iterator",data:=.fields #[.ref a,.int 0 0] }
abbrev xi (h:Heap)(a b:Addr):Heap:=tQ (tQ h a) b
abbrev wY (h:Heap)(a b:Addr):Heap:=(xi h a b).push { cls:=.type "tuple",data:=.seq #[.ref h.objs.size,.ref (tQ h a).objs.size] }
abbrev wM (h:Heap)(a b:Addr):Heap:=(wY h a b).push { cls:=.type "tuple",data:=.seq #[.none,.none] }
abbrev pG (h:Heap)(a b:Addr):Heap:=(wM h a b).push { cls:=.type "zip",data:=.fields #[.none,.bool false,.bool false,.ref (xi h a b).objs.size,.ref (wY h a b).objs.size] }
theorem wy (a b:Addr)(xs ys:Array Value) :
  Meets (Builtin.«zip.__new__» ⟨[.type "zip",.ref a,.ref b],[]⟩) (fun _ R s=>s.heap.IsTuple a xs/\s.heap.IsTuple b ys/\R (.ok (.ret (.ref (wM s.heap a b).objs.size))) { s with heap:=pG s.heap a b }) :=
 .of_wp fun prog w A R s h=>by
  obtain⟨hp,g,d,tk,os⟩:=s
  obtain⟨ta,tb,h⟩:=h
  have sub:=sub_zip
  have tA:Heap.IsTuple (Shared.heap ⟨hp,g,d,tk,os⟩) a xs:=ta
  have tB:Heap.IsTuple (Shared.heap ⟨hp.push { cls:=.type "tuple_iterator",data:=.fields #[.ref a,.int 0 0] },g,d,tk,os⟩) b ys:=let⟨o,ho,r⟩:=tb;⟨o,Heap.get?_push_of_some _ ho,r⟩
  wp_walk using wpAny_pyIter_tuple tA,wpAny_pyIter_tuple tB
  exact⟨_,rfl,h⟩
theorem uq {prog:Program}{w:World}{A:Around}{E:Value->Shared->Prop}{s:Shared}{a b:Addr}{xs ys:Array Value}{Q:Value->Shared->Prop}(ta:s.heap.IsTuple a xs)(tb:s.heap.IsTuple b ys)
  (h:∀h',IsZip h' (s.heap.objs.size+4) (s.heap.objs.size+2) (s.heap.objs.size+3) .none->IsPair h' (s.heap.objs.size+2) (.ref s.heap.objs.size) (.ref (s.heap.objs.size+1))->IsPair h' (s.heap.objs.size+3) .none .none ->
   h'.IsTupleIter s.heap.objs.size a 0->h'.IsTupleIter (s.heap.objs.size+1) b 0->(∀c o,s.heap.get? c=some o->h'.get? c=some o)->Q (.ref (s.heap.objs.size+4)) { s with heap:=h' }) :
  wpAny (model prog w) A (call (.type "zip") [.ref a,.ref b]) Q E s:=by
 refine callType_new F.called_zip (by decide) (F.typeCall_zip_2 _ _) (F.newCall_zip_2 _ _) (fun obj=>F.args_object_init_3 obj _ _) F.entry_zip_new (wy a b xs ys) ⟨ta,tb,?_⟩
 have e1:(tQ s.heap a).objs.size=s.heap.objs.size+1:=Heap.size_push ..
 have e2:(xi s.heap a b).objs.size=s.heap.objs.size+2:=by rw [Heap.size_push,e1]
 have e3:(wY s.heap a b).objs.size=s.heap.objs.size+3:=by rw [Heap.size_push,e2]
 have e4:(wM s.heap a b).objs.size=s.heap.objs.size+4:=by rw [Heap.size_push,e3]
 have up:∀{h:Heap} {o o':Obj} {c:Addr},h.get? c=some o->(h.push o').get? c=some o:=fun e=>Heap.get?_push_of_some _ e
 have q5:(pG s.heap a b).get? (wM s.heap a b).objs.size=some _:=Heap.get?_push_size _ rfl
 have q4:(pG s.heap a b).get? (wY s.heap a b).objs.size=some _:=up (Heap.get?_push_size _ rfl)
 have q3:(pG s.heap a b).get? (xi s.heap a b).objs.size=some _:=up (up (Heap.get?_push_size _ rfl))
 have q2:(pG s.heap a b).get? (tQ s.heap a).objs.size=some _:=up (up (up (Heap.get?_push_size _ rfl)))
 have q1:(pG s.heap a b).get? s.heap.objs.size=some _:=up (up (up (up (Heap.get?_push_size _ rfl))))
 show _/\_
 rw [e2,e3,e4] at q5
 rw [e1,e2] at q3
 rw [e3] at q4
 rw [e1] at q2
 rw [e4]
 exact⟨⟨_,q5,rfl⟩,h _ q5 q3 q4 ⟨_,q1,rfl,rfl⟩ ⟨_,q2,rfl,rfl⟩ fun c o x=>up (up (up (up (up x))))⟩
def FF (K:PySem.W.Frag)(a b:Addr):It :=
 ⟨fun i H=>∃xs ys x y,cq K H a xs/\cq K H b ys/\xs[i]? = some x/\ys[i]? = some y,fun i H x H'=>∃T v u,x = .ref T/\H T=none/\H'=upd H T (.tup [v,u]) /\ ∀xs ys,cq K H a xs->cq K H b ys->xs[i]? = some v/\ys[i]? = some u,
  fun i H=>∃xs ys,cq K H a xs/\cq K H b ys/\(xs.length<=i\/ys.length<=i)⟩
theorem cV {X:Cx}{pins:List (Addr×Obj)}{σ:L2.St}{H:Hp}{s:Shared}{a c:Addr}{xs:List V}(I:L2.Inv X pins σ H s)(f:cE X pins H c)(hq:cq X.kw H a xs):a≠c:=fun z=>by
 subst z
 obtain⟨f0,f1,f2,f3,f4,f5⟩:=f
 rcases hq with hq | ⟨o,its,n,hk,_⟩
 . rcases hq with hq | ⟨o,hq⟩<;>rw [f0] at hq<;>cases hq
 . have hb:X.base.get? a=some o:=I.ok.mod.kin a o hk
   rcases f3 with q | q
   . exact I.ok.noex a o hb q
   . exact Nat.lt_irrefl _ (Nat.lt_of_lt_of_le (Heap.lt_size (I.ok.bs a o hb).1) q)
theorem vM {P:Program}{w:World}{K:PySem.W.Frag}{elts:List Expr}{kt:Nat}{tp:Pos}(a b z ti tu j1 j2:Addr)(n1:ti≠z)(n2:tu≠z)(n3:j1≠z)(n4:j2≠z)(n5:ti≠tu)(n6:tu≠j1)(n7:tu≠j2)(n8:j1≠j2)(n9:ti≠j1)(n10:ti≠j2) :
  Turn P w K (.Tuple elts kt tp) (FF K a b) [z,ti,tu,j1,j2] z (fun i h=>IsZip h z ti tu .none/\IsPair h ti (.ref j1) (.ref j2)/\(∃p q,IsPair h tu p q)/\h.IsTupleIter j1 a i/\h.IsTupleIter j2 b i) where
 mem:=by simp
 obj:=fun i h st c hc=>by
  obtain⟨h1,h2,⟨p,q,h3⟩,⟨o4,g4,_,d4⟩,⟨o5,g5,_,d5⟩⟩:=st
  simp only [List.mem_cons,List.mem_nil_iff,or_false] at hc
  rcases hc with rfl | rfl | rfl | rfl | rfl
  . exact⟨_,h1,fun v z=>by cases z⟩
  . exact⟨_,h2,fun v z=>by cases z⟩
  . exact⟨_,h3,fun v z=>by cases z⟩
  . exact⟨_,g4,fun v z=>by rw [d4] at z;cases z⟩
  . exact⟨_,g5,fun v z=>by rw [d5] at z;cases z⟩
 keep:=fun i h h' st k=>by
  obtain⟨h1,h2,⟨p,q,h3⟩,h4,h5⟩:=st
  exact⟨k z (by simp) _ h1,k ti (by simp) _ h2,⟨p,q,k tu (by simp) _ h3⟩,h4.at fun o e=>k j1 (by simp) o e,h5.at fun o e=>k j2 (by simp) o e⟩
 item:=by
  intro X hP hw hK hc i pins s σ H E I hf st hg
  subst hP hw hK
  obtain⟨h1,h2,⟨p,q,h3⟩,h4,h5⟩:=st
  obtain⟨xs,ys,x,y,hq1,hq2,hx,hy⟩:=hg
  obtain⟨its1,rv1,p1,_⟩:=I.tuple hq1
  obtain⟨its2,rv2,p2,_⟩:=I.tuple hq2
  obtain⟨u1,hu1,ru1⟩:=rv1.get hx
  obtain⟨u2,hu2,ru2⟩:=rv2.get hy
  have D:ZA z ti tu j1 j2 a b:=⟨n1,n2,n3,n4,n5,n6,n7,n8,n9,n10,⟨cV I (hf z (by simp)) hq1,cV I (hf tu (by simp)) hq1,cV I (hf j1 (by simp)) hq1,cV I (hf j2 (by simp)) hq1⟩,
    ⟨cV I (hf z (by simp)) hq2,cV I (hf tu (by simp)) hq2,cV I (hf j1 (by simp)) hq2,cV I (hf j2 (by simp)) hq2⟩⟩
  refine sx D h1 h2 h3 h4 h5 p1 p2 (x:=u1) (y:=u2) (by simpa using hu1) (by simpa using hu2) fun h' g1 g2 g3 g4 g5 g6=>?_
  refine⟨_,rfl,wpAny_letOwnedTupleGo_zip g1 fun h'' g7 g8=>?_⟩
  have I1:L2.Inv X pins σ (upd H s.heap.objs.size (.tup [x,y])) { s with heap:=s.heap.push { cls:=.type "tuple",data:=.seq #[u1,u2] } } :=
    I.laid (t':=s.toks) (o:=.tup [x,y]) (fun b o q=>Heap.get?_push_of_some _ q) (Nat.le_refl _) (show cD X.prog X.w _ _ _ (.tup [x,y]) from⟨by show 2<=sizeLine;decide,[u1,u2],.cons ru1 (.cons ru2 .nil),cN.new _ _⟩)
  have lt:∀c ∈ [z,ti,tu,j1,j2],c≠s.heap.objs.size:=fun c hc=>by
    simp only [List.mem_cons,List.mem_nil_iff,or_false] at hc
    rcases hc with rfl | rfl | rfl | rfl | rfl
    . exact Nat.ne_of_lt (Heap.lt_size h1)
    . exact Nat.ne_of_lt (Heap.lt_size h2)
    . exact Nat.ne_of_lt (Heap.lt_size h3)
    . obtain⟨o',q3,_⟩:=h4
      exact Nat.ne_of_lt (Heap.lt_size q3)
    . obtain⟨o',q3,_⟩:=h5
      exact Nat.ne_of_lt (Heap.lt_size q3)
  have I2:L2.Inv X pins σ (upd H s.heap.objs.size (.tup [x,y])) { s with heap:=h'' }:=jA (t':=s.toks) (s:={ s with heap:=s.heap.push { cls:=.type "tuple",data:=.seq #[u1,u2] } }) (ch:=[z,ti,tu,j1,j2]) I1 (fun c o hc e=>by
    simp only [List.mem_cons,List.mem_nil_iff,or_false,not_or] at hc
    have h6:h'.get? c=some o:=by
      by_cases hcT:c=s.heap.objs.size
      . subst hcT
        have e':(s.heap.push { cls:=.type "tuple",data:=.seq #[u1,u2] }).get? s.heap.objs.size=some o:=e
        rw [Heap.get?_push_size _ rfl] at e'
        rw [<- e'];exact g5
      . exact g6 c o (by simp [hc]) ((Heap.get?_push_ne s.heap c _ hcT).symm.trans e)
    exact(g8.2 c hc.1).trans h6) (fun c hc=>by
      obtain⟨f0,f1,f2,f3,f4,f5⟩:=hf c hc
      exact⟨by rw [aJ (lt c hc)];exact f0,f1,f2,f3,f4,f5⟩)
  refine⟨.ref s.heap.objs.size,_,I2,rfl,⟨_,x,y,rfl,I.fresh,rfl,fun xs' ys' e1 e2=>?_⟩,⟨g7,?_,⟨u1,u2,?_⟩,?_,?_⟩,fun c hc=>?_⟩
  . rw [I.fD e1 hq1,I.fD e2 hq2];exact⟨hx,hy⟩
  . exact(g8.2 _ n1).trans (g6 ti _ (by simp [n1,n5,n9,n10]) h2)
  . exact(g8.2 _ n2).trans g2
  . exact g3.at fun o e=>(g8.2 _ n3).trans e
  . exact g4.at fun o e=>(g8.2 _ n4).trans e
  . rw [aJ (lt c hc)];exact(hf c hc).1
 done:=by
  intro X hP hw hK hc i pins s σ H E I hf st hg
  subst hP hw hK
  obtain⟨h1,h2,⟨p,q,h3⟩,h4,h5⟩:=st
  obtain⟨xs,ys,hq1,hq2,hl⟩:=hg
  obtain⟨its1,rv1,p1,_⟩:=I.tuple hq1
  obtain⟨its2,rv2,p2,_⟩:=I.tuple hq2
  have D:ZA z ti tu j1 j2 a b:=⟨n1,n2,n3,n4,n5,n6,n7,n8,n9,n10,⟨cV I (hf z (by simp)) hq1,cV I (hf tu (by simp)) hq1,cV I (hf j1 (by simp)) hq1,cV I (hf j2 (by simp)) hq1⟩,
    ⟨cV I (hf z (by simp)) hq2,cV I (hf tu (by simp)) hq2,cV I (hf j1 (by simp)) hq2,cV I (hf j2 (by simp)) hq2⟩⟩
  have l1:=rv1.length
  have l2:=rv2.length
  refine sW (I.ok.hd hc) D h1 h2 h3 h4 h5 p1 p2 ?_ fun h' g=>⟨rfl,jA (t':=s.toks) (ch:=[z,tu,j1,j2]) I (fun c o hc e=>g c o hc e) fun c hc=>hf c ?_⟩
  . rcases hl with hl | hl
    . left;simp;omega
    . right;simp;omega
  . simp only [List.mem_cons,List.mem_nil_iff,or_false] at hc ⊢
    rcases hc with rfl | rfl | rfl | rfl<;>simp
 self:=fun _ _ _ _ _ st h=>wpAny_pyIter_zip st.1 h
def jm (xs ys:List D):List D:=(xs.zip ys).map fun p=>.tup [p.1,p.2]
def qX (fa fb:FE):FI:=fun σ g=>(fa σ g).bind fun r=>match r.1 with | .tup xs=>(fb σ r.2).bind fun q=>(match q.1 with | .tup ys=>some (jm xs ys,q.2) | _=>none) | _=>none
theorem et.zip {K H ι a b vs us ds es}(hq:ic K H ι a vs)(hr:ag K H ι ds vs)(hq2:ic K H ι b us)(hr2:ag K H ι es us):et K (FF K a b) H ι (jm ds es):=fun i H1 ι1 g1 e1 G1 =>
 ⟨fun hl=>⟨vs,us,(hq.bV e1).sq,(hq2.bV e1).sq,by
  have hl':min ds.length es.length<=i:=by simpa [jm] using hl
  rw [<- hr.length,<- hr2.length];omega⟩,fun d hd=>by
  unfold jm at hd
  rw [List.getElem?_map] at hd
  cases hx:(ds.zip es)[i]? with
  | none=>rw [hx] at hd;cases hd
  | some pr =>
   obtain⟨d0,d1⟩:=pr
   rw [hx] at hd
   simp only [Option.map_some,Option.some.injEq] at hd
   subst hd
   rw [List.getElem?_zip_eq_some] at hx
   obtain⟨v,hv,rv⟩:=(ag.bV e1 _ hr).get hx.1
   obtain⟨u,hu,ru⟩:=(ag.bV e1 _ hr2).get hx.2
   refine⟨⟨vs,us,v,u,(hq.bV e1).sq,(hq2.bV e1).sq,hv,hu⟩,fun x H2 y=>?_⟩
   obtain⟨T,v',u',rfl,hn,rfl,hy⟩:=y
   obtain⟨y1,y2⟩:=hy vs us (hq.bV e1).sq (hq2.bV e1).sq
   rw [hv] at y1
   rw [hu] at y2
   cases y1
   cases y2
   refine⟨Ext.lay hn,G1.lay hn,?_⟩
   simp only [Rel]
   refine⟨T,_,rfl,.inl ⟨.inl aR,G1.fresh hn⟩,?_⟩
   simp only [ag]
   exact⟨_,_,rfl,Rel.ext (Ext.lay hn) _ rv,_,_,rfl,Rel.ext (Ext.lay hn) _ ru,rfl⟩⟩
theorem BG {X:Cx}{l m:Expr}{fa fb:FE}{p pos tp:Pos}{elts:List Expr}{kt:Nat}(hg:Gl X "zip")(hm:X.mg "zip" = none)(hl:DE X l fa)(hl2:DE X m fb)
  (hs:starEach [l,m] X.env=(false,eval l X.env)::starEach [m] X.env:=by rfl) (hs2:starEach [m] X.env=(false,eval m X.env)::starEach [] X.env:=by rfl) (hpl:(backTo pos (starEach [m] X.env)).any (·.1)=false:=by rfl) :
  DI X (.Tuple elts kt tp) (.Call (.Name "zip" p) [l,m] [] pos) (qX fa fb):=.of (by
 intro pins s σ H R I h
 obtain⟨ι,σd,g,ds,g',G0,S0,h,q⟩:=h
 obtain⟨⟨d1,g1⟩,h1,h⟩:=bind_some h
 cases d1 with
 | tup xs =>
  obtain⟨⟨d2,g2⟩,h2,h⟩:=bind_some h
  cases d2 with
  | tup ys =>
   cases h
   refine Call_ (c_ I hg hm PyProof.Rows.boot_zip (PyProof.Rows.callWith_type1 (aI ((e_ hl.un (e_ hl2.un jf hs2) hs) pos pins s σ H (fun vs H1=>∃v u ι1,vs = [v,u]/\Ext H ι H1 ι1/\au X.kw H1 ι1 g2/\Rel X.kw H1 ι1 (.tup xs) v/\Rel X.kw H1 ι1 (.tup ys) u) I ?_) fun us s1 ⟨vs,H1,I1,r1,v,u,ι1,e0,e1,G1,rd,rd2⟩=>?_) hs hpl))
   . refine tD.bind G0 S0 h1 fun H1 ι1 v e1 G1 S1 r1=>?_
     exact⟨ι1,σd,g1,_,g2,G1,S1,h2,fun H2 ι2 u e2 G2 r2=>⟨v,u,ι2,rfl,e1.trans e2,G2,Rel.ext e2 _ r1,r2⟩⟩
   . subst e0
     cases r1 with
     | cons ra rr =>
      cases rr with
      | cons rb rn =>
       cases rn
       simp only [Rel] at rd rd2
       obtain⟨a,vs,rfl,hq,hr⟩:=rd
       obtain⟨b,us,rfl,hq2,hr2⟩:=rd2
       cases ra
       cases rb
       obtain⟨its,rv,pt,_⟩:=I1.tuple hq.sq
       obtain⟨its2,rv2,dN,_⟩:=I1.tuple hq2.sq
       refine uq (show s1.heap.IsTuple a its.toArray from pt) (show s1.heap.IsTuple b its2.toArray from dN) fun h' z1 z2 z3 z4 z5 hk=>?_
       refine wpAny_pyIter_zip z1 ?_
       have ne:∀{m n:Nat},m≠n->(s1.heap.objs.size+m:Nat)≠s1.heap.objs.size+n:=fun h q=>h (Nat.add_left_cancel q)
       refine⟨s1.heap.objs.size+4,[s1.heap.objs.size+4,s1.heap.objs.size+2,s1.heap.objs.size+3,s1.heap.objs.size,s1.heap.objs.size+1],_,_,H1,rfl,I1.kept (t':=s1.toks) hk,
        vM a b _ _ _ _ _ (ne (by decide)) (ne (by decide)) (ne (m:=0) (by decide)) (ne (by decide)) (ne (by decide)) (ne (n:=0) (by decide)) (ne (by decide)) (ne (m:=0) (by decide)) (ne (n:=0) (by decide)) (ne (by decide)),
        ⟨z1,z2,⟨_,_,z3⟩,z4,z5⟩,fun c hc=>?_,q H1 ι1 _ e1 G1 (.zip hq hr hq2 hr2)⟩
       have le:s1.heap.objs.size<=c:=by
        simp only [List.mem_cons,List.mem_nil_iff,or_false] at hc
        rcases hc with rfl | rfl | rfl | rfl | rfl
        . exact Nat.le_add_right _ _
        . exact Nat.le_add_right _ _
        . exact Nat.le_add_right _ _
        . exact Nat.le_refl _
        . exact Nat.le_add_right _ _
       exact I1.fF le (I1.hok.fresh le)
  | _=>cases h
 | _=>cases h)
@[simp] theorem IS {fa fb:FE}{σ:Sg}{g:G}:qX fa fb σ g=(fa σ g).bind fun r=>match r.1 with | .tup xs=>(fb σ r.2).bind fun q=>(match q.1 with | .tup ys=>some (jm xs ys,q.2) | _=>none) | _=>none:=rfl
theorem ag.pick {K H ι}{xs:List D}{vs:List V}(r:ag K H ι xs vs)(l:Int)(st:Int):∀n k,ag K H ι ((List.range' k n).filterMap fun(k:Nat)=>xs[(l+(k:Int)*st).toNat]?) ((List.range' k n).filterMap fun(k:Nat)=>vs[(l+(k:Int)*st).toNat]?)
 | 0,k=>by simp [ag]
 | n+1,k=>by
  rw [List.range'_succ,List.filterMap_cons,List.filterMap_cons]
  have ih:=ag.pick r l st n (k+1)
  cases hx:xs[(l+(k:Int)*st).toNat]? with
  | none =>
   have hv:vs[(l+(k:Int)*st).toNat]? = none:=by
    rw [List.getElem?_eq_none_iff] at hx ⊢
    rw [<- r.length];exact hx
   rw [hv];exact ih
  | some d =>
   obtain⟨v,hv,rv⟩:=r.get hx
   rw [hv]
   simp only [ag]
   exact⟨v,_,rfl,rv,ih⟩
section
variable {X:Cx}
section
open SeqAt
variable {pins:List (Addr×Obj)}{σ:L2.St}{H:Hp}{s:Shared}{ι:Ix}
theorem BY (I:Inv X pins σ H s):∀(d1 d2:D) {A:Around} {x y:V} {u v:Value},flat d1=true->flat d2=true->Rel X.kw H ι d1 x->Rel X.kw H ι d2 y->RelV x u->RelV y v->A.units+dep d1<cLine->RcNeAt A s u v (!aA d1 d2)
 | .non,d2,A,x,y,u,v,_,f2,r1,r2,ru,rv,hu=>by
  simp only [Rel] at r1;subst r1;cases ru
  cases d2 with
  | non=>simp only [Rel] at r2;subst r2;cases rv;simp only [aA,Bool.not_true,Bool.not_false];exact .none_none
  | bl b=>simp only [Rel] at r2;subst r2;cases rv;simp only [aA,Bool.not_true,Bool.not_false];exact .none_bool b
  | int b=>simp only [Rel] at r2;subst r2;obtain⟨t,rfl⟩:=rv;simp only [aA,Bool.not_true,Bool.not_false];exact .none_int b t
  | str b=>simp only [Rel] at r2;subst r2;obtain⟨t,rfl⟩:=rv;simp only [aA,Bool.not_true,Bool.not_false];exact .none_str b t
  | tup ys=>simp only [Rel] at r2;obtain⟨a',ws,rfl,hq,hr⟩:=r2;cases rv;obtain⟨its,_,ht,_⟩:=I.tuple hq.sq;simp only [aA,Bool.not_true,Bool.not_false];exact .none_tuple ht (by omega)
  | lst ys=>simp only [Rel] at r2;obtain⟨a',ws,rfl,hq,hr⟩:=r2;cases rv;obtain⟨its,_,ht,_⟩:=I.list hq.sq;simp only [aA,Bool.not_true,Bool.not_false];exact .none_list ht.isList (by omega)
  | _=>cases f2
 | .bl a,d2,A,x,y,u,v,_,f2,r1,r2,ru,rv,hu=>by
  simp only [Rel] at r1;subst r1;cases ru
  cases d2 with
  | non=>simp only [Rel] at r2;subst r2;cases rv;simp only [aA,Bool.not_true,Bool.not_false];exact .bool_none a
  | bl b=>simp only [Rel] at r2;subst r2;cases rv;simp only [aA,Bool.not_true,Bool.not_false];exact .bool_bool a b
  | int b=>simp only [Rel] at r2;subst r2;obtain⟨t,rfl⟩:=rv;simp only [aA,Bool.not_true,Bool.not_false];exact .bool_int a b t
  | str b=>simp only [Rel] at r2;subst r2;obtain⟨t,rfl⟩:=rv;simp only [aA,Bool.not_true,Bool.not_false];exact .bool_str a b t
  | tup ys=>simp only [Rel] at r2;obtain⟨a',ws,rfl,hq,hr⟩:=r2;cases rv;obtain⟨its,_,ht,_⟩:=I.tuple hq.sq;simp only [aA,Bool.not_true,Bool.not_false];exact .bool_tuple a ht (by omega)
  | lst ys=>simp only [Rel] at r2;obtain⟨a',ws,rfl,hq,hr⟩:=r2;cases rv;obtain⟨its,_,ht,_⟩:=I.list hq.sq;simp only [aA,Bool.not_true,Bool.not_false];exact .bool_list a ht.isList (by omega)
  | _=>cases f2
 | .int a,d2,A,x,y,u,v,_,f2,r1,r2,ru,rv,hu=>by
  simp only [Rel] at r1;subst r1;obtain⟨t0,rfl⟩:=ru
  cases d2 with
  | non=>simp only [Rel] at r2;subst r2;cases rv;simp only [aA,Bool.not_true,Bool.not_false];exact .int_none a t0
  | bl b=>simp only [Rel] at r2;subst r2;cases rv;simp only [aA,Bool.not_true,Bool.not_false];exact .int_bool a t0 b
  | int b=>simp only [Rel] at r2;subst r2;obtain⟨t,rfl⟩:=rv;simp only [aA,Bool.not_true,Bool.not_false];exact .int_int a t0 b t
  | str b=>simp only [Rel] at r2;subst r2;obtain⟨t,rfl⟩:=rv;simp only [aA,Bool.not_true,Bool.not_false];exact .int_str a t0 b t
  | tup ys=>simp only [Rel] at r2;obtain⟨a',ws,rfl,hq,hr⟩:=r2;cases rv;obtain⟨its,_,ht,_⟩:=I.tuple hq.sq;simp only [aA,Bool.not_true,Bool.not_false];exact .int_tuple a t0 ht (by omega)
  | lst ys=>simp only [Rel] at r2;obtain⟨a',ws,rfl,hq,hr⟩:=r2;cases rv;obtain⟨its,_,ht,_⟩:=I.list hq.sq;simp only [aA,Bool.not_true,Bool.not_false];exact .int_list a t0 ht.isList (by omega)
  | _=>cases f2
 | .str a,d2,A,x,y,u,v,_,f2,r1,r2,ru,rv,hu=>by
  simp only [Rel] at r1;subst r1;obtain⟨t0,rfl⟩:=ru
  cases d2 with
  | non=>simp only [Rel] at r2;subst r2;cases rv;simp only [aA,Bool.not_true,Bool.not_false];exact .str_none a t0
  | bl b=>simp only [Rel] at r2;subst r2;cases rv;simp only [aA,Bool.not_true,Bool.not_false];exact .str_bool a t0 b
  | int b=>simp only [Rel] at r2;subst r2;obtain⟨t,rfl⟩:=rv;simp only [aA,Bool.not_true,Bool.not_false];exact .str_int a t0 b t
  | str b=>simp only [Rel] at r2;subst r2;obtain⟨t,rfl⟩:=rv;simp only [aA,Bool.not_true,Bool.not_false];exact .str_str a t0 b t
  | tup ys=>simp only [Rel] at r2;obtain⟨a',ws,rfl,hq,hr⟩:=r2;cases rv;obtain⟨its,_,ht,_⟩:=I.tuple hq.sq;simp only [aA,Bool.not_true,Bool.not_false];exact .str_tuple a t0 ht (by omega)
  | lst ys=>simp only [Rel] at r2;obtain⟨a',ws,rfl,hq,hr⟩:=r2;cases rv;obtain⟨its,_,ht,_⟩:=I.list hq.sq;simp only [aA,Bool.not_true,Bool.not_false];exact .str_list a t0 ht.isList (by omega)
  | _=>cases f2
 | .tup xs,d2,A,x,y,u,v,f1,f2,r1,r2,ru,rv,hu=>by
  simp only [Rel] at r1;obtain⟨a,vs,rfl,hq,hr⟩:=r1;cases ru
  obtain⟨its,rits,ht,_⟩:=I.tuple hq.sq
  simp only [dep] at hu
  cases d2 with
  | non=>simp only [Rel] at r2;subst r2;cases rv;simp only [aA,Bool.not_true,Bool.not_false];exact .tuple_none ht (by omega)
  | bl b=>simp only [Rel] at r2;subst r2;cases rv;simp only [aA,Bool.not_true,Bool.not_false];exact .tuple_bool b ht (by omega)
  | int b=>simp only [Rel] at r2;subst r2;obtain⟨t,rfl⟩:=rv;simp only [aA,Bool.not_true,Bool.not_false];exact .tuple_int b t ht (by omega)
  | str b=>simp only [Rel] at r2;subst r2;obtain⟨t,rfl⟩:=rv;simp only [aA,Bool.not_true,Bool.not_false];exact .tuple_str b t ht (by omega)
  | tup ys =>
   simp only [Rel] at r2;obtain⟨a',ws,rfl,hq',hr'⟩:=r2;cases rv
   obtain⟨its',rits',ht',_⟩:=I.tuple hq'.sq
   simp only [aA,gp]
   have l1:xs.length=its.toArray.size:=by rw [List.size_toArray,<- rits.length];exact hr.length
   have l2:ys.length=its'.toArray.size:=by rw [List.size_toArray,<- rits'.length];exact hr'.length
   rw [l1,l2]
   refine .tuples ht ht' (by omega) fun j h1 h2=>?_
   have:=gU I xs ys (A:=A.in1) f1 f2 hr hr' rits rits' (by rw [in1_units];omega) j (by simpa using h1) (by simpa using h2)
   simpa using this
  | lst ys =>
   simp only [Rel] at r2;obtain⟨a',ws,rfl,hq',hr'⟩:=r2;cases rv
   obtain⟨its',rits',ht',_⟩:=I.list hq'.sq
   simp only [aA,Bool.not_true,Bool.not_false];exact .tuple_list ht ht'.isList (by omega)
  | _=>cases f2
 | .lst xs,d2,A,x,y,u,v,f1,f2,r1,r2,ru,rv,hu=>by
  simp only [Rel] at r1;obtain⟨a,vs,rfl,hq,hr⟩:=r1;cases ru
  obtain⟨its,rits,ht,_⟩:=I.list hq.sq
  simp only [dep] at hu
  cases d2 with
  | non=>simp only [Rel] at r2;subst r2;cases rv;simp only [aA,Bool.not_true,Bool.not_false];exact .list_none ht.isList (by omega)
  | bl b=>simp only [Rel] at r2;subst r2;cases rv;simp only [aA,Bool.not_true,Bool.not_false];exact .list_bool b ht.isList (by omega)
  | int b=>simp only [Rel] at r2;subst r2;obtain⟨t,rfl⟩:=rv;simp only [aA,Bool.not_true,Bool.not_false];exact .list_int b t ht.isList (by omega)
  | str b=>simp only [Rel] at r2;subst r2;obtain⟨t,rfl⟩:=rv;simp only [aA,Bool.not_true,Bool.not_false];exact .list_str b t ht.isList (by omega)
  | lst ys =>
   simp only [Rel] at r2;obtain⟨a',ws,rfl,hq',hr'⟩:=r2;cases rv
   obtain⟨its',rits',ht',_⟩:=I.list hq'.sq
   simp only [aA,gp]
   have l1:xs.length=its.toArray.size:=by rw [List.size_toArray,<- rits.length];exact hr.length
   have l2:ys.length=its'.toArray.size:=by rw [List.size_toArray,<- rits'.length];exact hr'.length
   rw [l1,l2]
   by_cases hs:its.toArray.size=its'.toArray.size
   . have e0:(its.toArray.size == its'.toArray.size)=true:=by simpa using hs
     rw [e0,Bool.and_true,<- hs,Nat.min_self]
     refine .lists ht.isList ht'.isList hs (by omega) fun j h1 h2=>?_
     have:=gU I xs ys (A:=A.in1) f1 f2 hr hr' rits rits' (by rw [in1_units];omega) j (by simpa using h1) (by simpa using h2)
     simpa using this
   . have e0:(its.toArray.size == its'.toArray.size)=false:=by simpa using hs
     rw [e0,Bool.and_false,Bool.not_false]
     exact .lists_lengths ht.isList ht'.isList (by simpa using hs) (by omega)
  | tup ys =>
   simp only [Rel] at r2;obtain⟨a',ws,rfl,hq',hr'⟩:=r2;cases rv
   obtain⟨its',rits',ht',_⟩:=I.tuple hq'.sq
   simp only [aA,Bool.not_true,Bool.not_false];exact .list_tuple ht.isList ht' (by omega)
  | _=>cases f2
 | .edc,d2,A,x,y,u,v,f1,_,_,_,_,_,_=>by cases f1
 | .ref _,d2,A,x,y,u,v,f1,_,_,_,_,_,_=>by cases f1
 | .aQ _,d2,A,x,y,u,v,f1,_,_,_,_,_,_=>by cases f1
 | .fn _,d2,A,x,y,u,v,f1,_,_,_,_,_,_=>by cases f1
end
def cX (d1 d2:D)(g:G):Option (D×G):=if(flat d1&&flat d2&&decide (dep d1<=60))=true then some (.bl (!aA d1 d2),g) else none
theorem CU (hu:X.A.units+64<cLine):aT X (compareOp .NotEq) (bU X.kw cX):=by
 intro pins s σ H x y v u Q I rx ry q
 obtain⟨ι,g,d1,d2,d,g',G0,r1,r2,q,p⟩:=q
 unfold cX at q
 split at q
 . rename_i z
   simp only [Bool.and_eq_true,decide_eq_true_eq] at z
   cases q
   exact BY I d1 d2 z.1.1 z.1.2 r1 r2 rx ry (by omega) _ _ _ _ ⟨.bl _,H,I,rfl,p H ι _ Ext.refl G0 (by simp [Rel])⟩
 . cases q
end
@[simp] theorem Jh {d1 d2:D}{g:G}:cX d1 d2 g=if(flat d1&&flat d2&&decide (dep d1<=60))=true then some (.bl (!aA d1 d2),g) else none:=rfl
def dE:List D->Option (List Int)
 | []=>some []
 | .int i::ds=>(dE ds).map (i :: ·)
 | _=>none
theorem sC {d:D}{ds:List D}{ns:List Int}(h:dE (d::ds)=some ns):∃i ms,d = .int i/\ns=i::ms/\dE ds=some ms:=by
 cases d with
 | int i =>
  simp only [dE,Option.map_eq_some_iff] at h
  obtain⟨ms,h1,rfl⟩:=h
  exact⟨i,ms,rfl,rfl,h1⟩
 | _=>simp [dE] at h
theorem iY {K H ι}:∀{xs:List D} {vs:List V} {us:List Value} {ns:List Int},dE xs=some ns->ag K H ι xs vs->Vals vs us->IntsAre us ns
 | [],vs,us,ns,h,r,rv=>by simp only [ag] at r;subst r;cases rv;cases h;exact .nil
 | d::ds,vs,us,ns,h,r,rv=>by
  obtain⟨i,ms,rfl,rfl,h1⟩:=sC h
  simp only [ag,Rel] at r
  obtain⟨v,vr,rfl,rfl,hr⟩:=r
  cases rv with
  | cons r0 rr =>
   obtain⟨t,rfl⟩:=r0
   exact .cons i t (iY h1 hr rr)
theorem iw:∀{us:List Value} {ns:List Int},IntsAre us ns->∃xs:List (Int×Tok),us=xs.map (fun p=>Value.int p.1 p.2)/\ns=xs.map (·.1)
 | _,_,.nil=>⟨[],rfl,rfl⟩
 | _,_,.cons n t h=>by
  obtain⟨xs,rfl,rfl⟩:=iw h
  exact⟨(n,t)::xs,rfl,rfl⟩
section
variable {X:Cx}
def sd (ds:List D)(g:G):Option (D×G):=match ds with | [d]=>(gH d g).bind fun xs=>(dE xs).map fun ns=>(.int ns.sum,g) | _=>none
theorem CY (hh:X.A.handled=none):ck X (.builtin "sum") (gD X.kw sd):=by
 intro pins s σ H xs us Q I r q
 obtain⟨ι,g,ds,d,g',G0,r1,q,p⟩:=q
 cases ds with
 | nil=>cases q
 | cons e dsr =>
 cases dsr with
 | cons _ _=>cases q
 | nil =>
  simp only [sd] at q
  obtain⟨ys,hx,q⟩:=bind_some q
  obtain⟨ns,hn,q⟩:=Option.map_eq_some_iff.mp q
  cases q
  simp only [ag] at r1
  obtain⟨v,_,rfl,rv,rfl⟩:=r1
  obtain⟨a,vs,rfl,hq,hr⟩:=gy G0 rv hx
  cases r with
  | cons ru rr =>
   cases rr
   cases ru
   obtain⟨its,rits,ht,_⟩:=I.list hq
   obtain⟨ps,rfl,rfl⟩:=iw (iY hn hr rits)
   have hi:(ps.map (fun p=>Value.int p.1 p.2)).toArray=intItems ps.toArray:=by simp [intItems]
   have hl:=ht.isList
   rw [hi] at hl
   refine sum_intListG hh hl fun h' tk t' hk=>?_
   rw [preSum_eq,List.take_of_length_le (by simp)]
   exact⟨.int _,H,I.kept hk,⟨_,rfl⟩,p H ι _ Ext.refl G0 (by simp [Rel])⟩
end
section
variable {X:Cx}
def DM (i j k:Nat)(ta:TA):TS:=fun D σ H=>ta σ H fun vs H1=>∃v w z,vs = [v,w,z]/\D.nx (((σ.set i (some v)).set j (some w)).set k (some z)) H1
theorem yP {i j k:Nat}{x y z:Str}{a b c:Expr}{ta:TA}{px py pz pt pos:Pos}{kt k2 dN}(hc:X.calm=true)(hN:X.N.Nodup)(hi:X.N[i]? = some x)(hj:X.N[j]? = some y)(hk:X.N[k]? = some z)(hij:i≠j)(hik:i≠k)(hjk:j≠k)
  (hx:X.env.scope.names.lookup x=some .local) (hy:X.env.scope.names.lookup y=some .local) (hz:X.env.scope.names.lookup z=some .local) (ha:PA X [a,b,c] ta)
  (hw:swappedStores [.Tuple [.Name x px,.Name y py,.Name z pz] kt pt] (.Tuple [a,b,c] k2 dN) X.env=pure (some [x,y,z]))
  (hs:swapsWithSole [.Tuple [.Name x px,.Name y py,.Name z pz] kt pt] (.Tuple [a,b,c] k2 dN) pos.line X.env=pure false:=by rfl) :
  PS X (.Assign [.Tuple [.Name x px,.Name y py,.Name z pz] kt pt] (.Tuple [a,b,c] k2 dN) pos) (DM i j k ta):=by
 intro pins s σ H D I h
 rw [exec_Assign_arm]
 refine wpAny_bind (wpAny_standAt ?_)
 rw [hs]
 refine wpAny_bind (wpAny_pure ?_)
 rw [if_neg (by decide)]
 refine wpAny_bind (Tuple_ (aI (ha _ pins s σ H _ I h) fun us s1 ⟨vs,H1,I1,r1,q1⟩=>?_))
 obtain⟨v,w,u,e1,q1⟩:=q1
 subst e1
 obtain⟨u1,u2,u3,rfl,rv,rw',ru⟩:∃u1 u2 u3,us = [u1,u2,u3]/\RelV v u1/\RelV w u2/\RelV u u3:=by
  cases r1 with
  | cons p q =>
   cases q with
   | cons p' q' =>
    cases q' with
    | cons p'' q'' =>
     cases q''
     exact⟨_,_,_,rfl,p,p',p''⟩
 refine wpAny_newObj_type ?_ (by show 3<=sizeLine;decide)
 have I2:Inv X pins σ H1 { s1 with heap:=s1.heap.push { cls:=.type "tuple",data:=.seq [u1,u2,u3].toArray } }:=I1.kept (t':=s1.toks) fun b o e=>Heap.get?_push_of_some _ e
 rw [hw]
 refine wpAny_bind (wpAny_pure ?_)
 show wpAny (model X.prog X.w) X.A (do rule "assign.swapped-stores";let items <- unpackItems (.ref s1.heap.objs.size) 3 none;assignInOrder [fun v=>bindName X.env z v,fun v=>bindName X.env y v,fun v=>bindName X.env x v] items.reverse;pure Flow.next) _ _ _
 refine wpAny_bind (wpAny_rule (wpAny_bind (unpackItems_tuple (items:=#[u1,u2,u3]) (I.ok.hd hc) (IsTup.new s1.heap _) fun h' hx'=>?_)))
 have I3:=I2.kept (h':=h') (t':=s1.toks) fun b o e=>hx' b o (Nat.ne_of_lt (Heap.lt_size e)) e
 show wpAny _ _ (assignInOrder [fun v=>bindName X.env z v,fun v=>bindName X.env y v,fun v=>bindName X.env x v] [u3,u2,u1] >>= fun _=>pure Flow.next) _ _ _
 refine wpAny_bind (assignInOrder_cons (wpAny_bindName (eg I3 hN hk (.inl hz) ru (fun s2 I4=>?_) (.inr hz))))
 refine assignInOrder_cons (wpAny_bindName (eg I4 hN hj (.inl hy) rw' (fun s3 I5=>?_) (.inr hy)))
 refine assignInOrder_cons (wpAny_bindName (eg I5 hN hi (.inl hx) rv (fun s4 I6=>assignInOrder_nil (wpAny_pure ?_)) (.inr hx)))
 rw [List.set_comm _ _ (Ne.symm hij),List.set_comm _ _ (Ne.symm hik),List.set_comm _ _ (Ne.symm hjk)] at I6
 exact⟨_,H1,I6,q1⟩
def ke (i j k:Nat)(fr:FA):FS:=fun σ g=>(fr σ g).bind fun r=>match r.1 with
 | [a,b,c]=>some (.nx,((σ.set i (some a)).set j (some b)).set k (some c),r.2)
 | _=>none
theorem zx {i j k:Nat}{x y z:Str}{a b c:Expr}{fr:FA}{px py pz pt pos:Pos}{kt k2 dN}(hc:X.calm=true)(hN:X.N.Nodup)(hi:X.N[i]? = some x)(hj:X.N[j]? = some y)(hk:X.N[k]? = some z)(hij:i≠j)(hik:i≠k)(hjk:j≠k)
  (hx:X.env.scope.names.lookup x=some .local) (hy:X.env.scope.names.lookup y=some .local) (hz:X.env.scope.names.lookup z=some .local) (ha:DA X [a,b,c] fr)
  (hw:swappedStores [.Tuple [.Name x px,.Name y py,.Name z pz] kt pt] (.Tuple [a,b,c] k2 dN) X.env=pure (some [x,y,z]))
  (hs:swapsWithSole [.Tuple [.Name x px,.Name y py,.Name z pz] kt pt] (.Tuple [a,b,c] k2 dN) pos.line X.env=pure false:=by rfl) :
  DS X (.Assign [.Tuple [.Name x px,.Name y py,.Name z pz] kt pt] (.Tuple [a,b,c] k2 dN) pos) (ke i j k fr):=.of (
 PS.imp (yP hc hN hi hj hk hij hik hjk hx hy hz ha.un hw hs) fun Dn σ H h=>by
  obtain⟨ι,σd,g,r,σd',g',G0,S0,h,p⟩:=h
  obtain⟨⟨ds,g1⟩,h1,h⟩:=bind_some h
  refine eU.bind G0 S0 h1 fun H1 ι1 vs e1 G1 S1 r1=>?_
  dsimp only at h
  split at h
  . rename_i a b c
    cases h
    simp only [ag] at r1
    obtain⟨v,vr,rfl,ra,u,ur,rfl,rb,t,tr,rfl,rc,rfl⟩:=r1
    exact⟨v,u,t,rfl,p H1 ι1 e1 G1 _ (((S1.set ra i).set rb j).set rc k)⟩
  . cases h)
end
section
variable {σ:Sg}{g:G}{fr:FA}
@[simp] theorem FY {i j k:Nat}:ke i j k fr σ g=(fr σ g).bind fun r=>match r.1 with
 | [a,b,c]=>some (.nx,((σ.set i (some a)).set j (some b)).set k (some c),r.2)
 | _=>none:=rfl
@[simp] theorem Ja {d:D}:sd [d] g=(gH d g).bind fun xs=>(dE xs).map fun ns=>(.int ns.sum,g):=rfl
end
theorem pv {prog:Program}{w:World}{A:Around}{E:Value->Shared->Prop}{s:Shared}{l:Addr}{xs:Array (Int×Tok)}{Q:Value->Shared->Prop}(hh:A.handled=none)(hl:s.heap.IsTuple l (intItems xs))
   (h:∀h' tk t',(∀b o,s.heap.get? b=some o->h'.get? b=some o)->Q (.int (preSum (numAt xs) xs.size) t') { s with heap:=h',toks:=tk }) :
   wpAny (model prog w) A (call (.builtin "sum") [.ref l]) Q E s:=by
 have hlt:l<s.heap.objs.size:=by obtain⟨_,e,_⟩:=hl;exact Heap.lt_size e
 have hne:l≠s.heap.objs.size:=Nat.ne_of_lt hlt
 refine call_sum_walkG (wpAny_pyIter_tuple hl ?_)
 refine⟨_,[s.heap.objs.size,l],[s.heap.objs.size],_,_,_,numAt xs,rfl,Walks.tuple (A:=A.in1) hh _ l hne (intItems xs),⟨⟨_,Heap.get?_push_size _ rfl,rfl,rfl⟩,hl.push _⟩,fun b hb=>?_,(fun _ _=>intItems_at),fun h' tk t' hk=>?_⟩
 . show b<(s.heap.push _).objs.size
   rw [Heap.size_push]
   rcases List.mem_cons.mp hb with rfl | hb
   . exact Nat.lt_succ_self _
   . rcases List.mem_cons.mp hb with rfl | hb
     . exact Nat.lt_succ_of_lt hlt
     . cases hb
 . have:=h h' tk t' fun b o e=>by
     refine hk b o (fun hm=>?_) (Heap.get?_push_of_some _ e)
     rcases List.mem_cons.mp hm with e1 | hm
     . exact absurd (e1 ▸ Heap.lt_size e) (Nat.lt_irrefl _)
     . cases hm
   simpa [intItems] using this
section
variable {X:Cx}
def iz (ds:List D)(g:G):Option (D×G):=match ds with
 | [.tup xs]=>(dE xs).map fun ns=>(.int ns.sum,g)
 | ds=>sd ds g
theorem za (hh:X.A.handled=none):ck X (.builtin "sum") (gD X.kw iz):=by
 intro pins s σ H xs us Q I r q
 obtain⟨ι,g,ds,d,g',G0,r1,q,p⟩:=q
 unfold iz at q
 split at q
 . rename_i ys
   obtain⟨ns,hn,q⟩:=Option.map_eq_some_iff.mp q
   cases q
   simp only [ag,Rel] at r1
   obtain⟨v,_,rfl,⟨a,vs,rfl,hq,hr⟩,rfl⟩:=r1
   cases r with
   | cons ru rr =>
    cases rr
    cases ru
    obtain⟨its,rits,ht,_⟩:=I.tuple hq.sq
    obtain⟨ps,rfl,rfl⟩:=iw (iY hn hr rits)
    have hi:(ps.map (fun p=>Value.int p.1 p.2)).toArray=intItems ps.toArray:=by simp [intItems]
    rw [hi] at ht
    refine pv hh ht fun h' tk t' hk=>?_
    rw [preSum_eq,List.take_of_length_le (by simp)]
    exact⟨.int _,H,I.kept hk,⟨_,rfl⟩,p H ι _ Ext.refl G0 (by simp [Rel])⟩
 . exact CY hh pins s σ H xs us Q I r ⟨ι,g,_,d,g',G0,r1,q,p⟩
end
@[simp] theorem Es {xs:List D}{g:G}:iz [.tup xs] g=(dE xs).map fun ns=>(.int ns.sum,g):=rfl
@[simp] theorem Ex {xs:List D}{g:G}:iz [.lst xs] g=(dE xs).map fun ns=>(.int ns.sum,g):=rfl
end L3
namespace L3
open PySem PySem.Spec PyProof.Rows L2 HT
section
variable {prog:Program}{w:World}{A:Around}{E:Value->Shared->Prop}{s:Shared}
theorem iQ {t sl:Addr}{items:Array Value}{vl vu:Value}{lo hi:Option Int}{Q:Value->Shared->Prop}(ht:IsTup s.heap t items)(hs:s.heap.IsSliceOf sl vl vu .none)(pl:IsPart vl lo)(pu:IsPart vu hi)
  (hw:aU items.size 0 lo=0/\aU items.size items.size hi=items.size)
  (h:Q (.ref t) s):wpAny (model prog w) A (getItem (.ref t) (.ref sl)) Q E s:=by
 obtain⟨os,hos,hcs,hds⟩:=id hs
 have hTs:s.TypeIs (.ref sl) "slice":=⟨os,hos,hcs⟩
 unfold getItem
 try with_reducible refine wpAny_holding ?_
 first | refine wpAny_bind (wpAny_pure ?_) | skip
 refine wpAny_bind (wpAny_sequenceKey ht.typeIs (by decide) ?_)
 refine wpAny_bind (wpAny_callSpecial?_slot (name:=Str.ofString "__getitem__") ht.typeIs PyProof.Rows.slot_tuple_getitem
  (wpAny_call_entry PyProof.Rows.slot_tuple_getitem ht.typeIs entry_tuple_getitem ?_ (args_tuple_getitem _ _)))
 show wpAny _ _ (Builtin.Tuple.tupleItemsOf (.ref t) >>= _) _ _ s
 refine wpAny_bind (tupleItemsOf_ ht ?_)
 refine wpAny_bind (wpAny_typeOf hTs ?_)
 rw [if_pos (by decide)]
 refine wpAny_bind (gu hs pl pu ?_)
 have hyes:((((aU items.size 0 lo:Nat):Int) == 0&&(1:Int) == 1&&(aU items.size items.size hi-aU items.size 0 lo) == items.size)=true):=by
  rw [hw.1,hw.2];simp
 show wpAny _ _ (if(((aU items.size 0 lo:Nat):Int) == 0&&(1:Int) == 1&&(aU items.size items.size hi-aU items.size 0 lo) == items.size)=true then _ else _) _ _ s
 rw [if_pos hyes]
 unfold Builtin.Tuple.tupleIsExact
 refine wpAny_bind (wpAny_bind (wpAny_typeOf ht.typeIs (wpAny_pure ?_)))
 rw [if_pos (by decide)]
 refine wpAny_bind (wpAny_rule (wpAny_pure ⟨_,rfl,wpAny_pure h⟩))
end
section
variable {X:Cx}
def GQ (K:KW):V->Option Int->Option Int->Hp->VK->Prop:=fun x lo hi H Q=>∃a xs,x = .ref a/\cq K H a xs/\(HT.aU xs.length 0 lo=0/\HT.aU xs.length xs.length hi=xs.length)/\Q (.ref a) H
theorem wq:jN X (GQ X.kw):=by
 intro pins s σ H x v vl vu lo hi sl Q I rx hs pl pu h
 obtain⟨a,xs,rfl,hx,hw,q⟩:=h
 cases rx
 obtain⟨its,r,ht,hz⟩:=I.tuple hx
 have hlen:its.toArray.size=xs.length:=by rw [List.size_toArray];exact r.length.symm
 refine⟨"tuple",_,PyProof.Rows.slot_tuple_getitem.lookup,ht.typeIs,?_⟩
 exact iQ ht hs pl pu (by rw [hlen];exact hw) ⟨.ref a,H,I,rfl,q⟩
def dA (d:D)(lo hi:Option Int)(g:G):Option (D×G):=match d with
 | .tup xs=>some (.tup (cutD xs lo hi),g)
 | d=>hU d lo hi g
theorem sR {xs:List D}{lo hi:Option Int}(h:dS xs.length lo hi=true):cutD xs lo hi=xs:=by
 unfold dS at h
 rw [Bool.and_eq_true,decide_eq_true_eq,decide_eq_true_eq] at h
 unfold cutD
 rw [h.1,h.2]
 simp
def cz (fa:FE)(fl fh:FO):FE:=fun σ g=>(fa σ g).bind fun r=>(fl σ r.2).bind fun l=>(fh σ l.2).bind fun h=>dA r.1 l.1 h.1 h.2
theorem uK {a:Expr}{lo hi:Option Expr}{fa:FE}{fl fh:FO}{p2 pos:Pos}(ha:DE X a fa)(hl:DO X lo fl)(hh:DO X hi fh):DE X (.Subscript a (.Slice lo hi none p2) pos) (cz fa fl fh):=.of (
 PE.imp (vo (jN.or yR wq) ha.un hl.un hh.un) fun σ H Q h=>by
  obtain⟨ι,σd,g,d,g',G0,S0,h,p⟩:=h
  obtain⟨⟨d1,g1⟩,h1,h⟩:=bind_some h
  obtain⟨⟨l,g2⟩,h2,h⟩:=bind_some h
  obtain⟨⟨u,g3⟩,h3,h⟩:=bind_some h
  refine tD.bind G0 S0 h1 fun H1 ι1 v e1 G1 S1 r1=>?_
  refine⟨ι1,σd,g1,l,g2,G1,S1,h2,fun H2 ι2 e2 G2=>?_⟩
  refine⟨ι2,σd,g2,u,g3,G2,S1.ext e2,h3,fun H3 ι3 e3 G3=>?_⟩
  have r3:=Rel.ext (e2.trans e3) _ r1
  have p3:=p.mono (e1.trans (e2.trans e3))
  have lst:∀{xs:List D} {a:Addr} {vs:List V},v = .ref a->cw X.kw H3 a vs->ag X.kw H3 ι3 xs vs->some (D.lst (cutD xs l u),g3)=some (d,g')->AH X.kw v l u H3 Q:=fun {xs a vs} ev hq hr hh=>by
   cases hh
   refine .inr ⟨a,vs,ev,hq,fun q hq'=>p3 _ _ _ (Ext.lay hq') (G3.lay hq') ?_⟩
   simp only [Rel]
   exact⟨q,_,rfl,.inl ⟨.inl aR,G3.fresh hq',G3.gW hq'⟩,ag.ext (Ext.lay hq') _ (hr.Bk l u)⟩
  dsimp only at h
  cases d1 with
  | tup xs =>
   simp only [dA] at h
   cases h
   have r4:=r3
   simp only [Rel] at r3
   obtain⟨a,vs,rfl,hq,hr⟩:=r3
   by_cases z:dS xs.length l u=true
   . refine .inr ⟨a,vs,rfl,hq.sq,?_,p3 _ _ _ Ext.refl G3 ?_⟩
     . unfold dS at z
       rw [hr.length,Bool.and_eq_true,decide_eq_true_eq,decide_eq_true_eq] at z;exact z
     . rw [sR z];exact r4
   . refine .inl (.inl ⟨a,vs,rfl,hq.sq,fun c=>z ?_,fun q hq'=>p3 _ _ _ (Ext.lay hq') (G3.lay hq') ?_⟩)
     . unfold dS
       rw [hr.length,Bool.and_eq_true,decide_eq_true_eq,decide_eq_true_eq];exact c
     . simp only [Rel]
       exact⟨q,_,rfl,.inl ⟨.inl aR,G3.fresh hq'⟩,ag.ext (Ext.lay hq') _ (hr.Bk l u)⟩
  | lst xs =>
   simp only [dA,hU] at h
   simp only [Rel] at r3
   obtain⟨a,vs,e0,hq,hr⟩:=r3
   exact .inl (lst e0 hq.sq hr h)
  | ref n =>
   simp only [dA,hU] at h
   split at h
   . rename_i xs hx
     simp only [Rel] at r3
     obtain⟨a,e0,ha⟩:=r3
     obtain⟨vs,hv,hr⟩:=G3.at hx ha
     exact .inl (lst e0 (.of hv) hr h)
   . cases h
  | _=>cases h)
end
@[simp] theorem Jf {fa:FE}{fl fh:FO}{σ:Sg}{g:G}:cz fa fl fh σ g=(fa σ g).bind fun r=>(fl σ r.2).bind fun l=>(fh σ l.2).bind fun h=>dA r.1 l.1 h.1 h.2:=rfl
theorem fA {d:D}{lo hi:Option Int}{g g':G}{xs:List D}(h:hU (.tup xs) lo hi g=some (d,g')):dA (.tup xs) lo hi g=some (d,g'):=by
 simp only [hU] at h
 split at h
 . cases h
 . exact h
end L3
namespace L3
open PySem PySem.Spec PyProof.Rows L2
mutual
def nd:D->Nat
 | .tup xs=>ET xs+1
 | _=>1
def ET:List D->Nat
 | []=>0
 | d::ds=>nd d+ET ds
end
section
variable {X:Cx}
def jt (ds:List D)(g:G):Option (D×G):=match ds with | [d]=>(gH d g).bind fun xs=>(bools xs).map fun bs=>(.bl (bs.any id),g) | _=>none
theorem yp (hc:X.calm=true):ck X (.builtin "any") (gD X.kw jt):=by
 intro pins s σ H xs us Q I r q
 obtain⟨ι,g,ds,d,g',G0,r1,q,p⟩:=q
 cases ds with
 | nil=>cases q
 | cons e dsr =>
 cases dsr with
 | cons _ _=>cases q
 | nil =>
  simp only [jt] at q
  obtain⟨ys,hx,q⟩:=bind_some q
  cases hb:bools ys with
  | none=>rw [hb] at q;cases q
  | some bs =>
   rw [hb] at q;cases q
   simp only [ag] at r1
   obtain⟨v,_,rfl,rv,rfl⟩:=r1
   obtain⟨a,vs,rfl,hq,hr⟩:=gy G0 rv hx
   obtain⟨u,rfl,ru⟩:=vals1 r
   cases ru
   obtain⟨its,rits,pl,hz⟩:=I.list hq
   have e0:=iZ hb hr rits
   subst e0
   have hl:=pl.isList
   have hlt:a<s.heap.objs.size:=by obtain⟨_,e,_⟩:=hl;exact Heap.lt_size e
   refine call_any_walk (wpAny_pyIter_list hl ?_)
   refine⟨s.heap.objs.size,[s.heap.objs.size,a],[s.heap.objs.size],_,_,_,fun i=>(bs[i]?).getD false,rfl,Walks.list (A:=X.A.in1) (I.ok.hd hc) _ a (Nat.ne_of_lt hlt) _,
     ⟨⟨_,Heap.get?_push_size _ rfl,rfl,rfl⟩,hl.push _⟩,fun i v s' Q' E' hP hQ=>?_,fun h' tk hk=>?_⟩
   . have hP':(bs.map Value.bool)[i]? = some v:=by simpa using hP
     rw [List.getElem?_map] at hP'
     cases e:bs[i]? with
     | none=>rw [e] at hP';cases hP'
     | some b =>
      rw [e] at hP';cases hP'
      dsimp only at hQ
      rw [e] at hQ
      exact wpAny_truthy_bool hQ
   . have e:((List.range (bs.map Value.bool).toArray.size).any fun i=>(bs[i]?).getD false)=bs.any id:=by
      rw [List.size_toArray,List.length_map];exact qI bs
     rw [e]
     exact⟨.bl _,H,I.kept (kS hk),rfl,p H ι _ Ext.refl G0 (by simp [Rel])⟩
end
section
variable {X:Cx}
theorem Bw:aT X (binaryOp .LShift) (bU X.kw (aK bY (fun i j=>i*2 ^ j.toNat))):=eP AN fun i j h=>by
 unfold bY at h
 simp only [Bool.and_eq_true] at h
 have h2:=Nat.le_of_ble_eq_true h.2
 cases j with
 | ofNat n =>
  have h1:=Nat.le_of_ble_eq_true (show Nat.ble n 1000000=true from h.1)
  exact⟨Int.natCast_nonneg n,(by show((n:Nat):Int)<=1000000;omega),(by omega)⟩
 | negSucc n=>exact absurd h.1 (by simp)
theorem AD:aT X (binaryOp .BitAnd) (bU X.kw (aK aW Builtin.bitAnd)):=eP (aT.imp C_ fun _ _ _ _=>jx) fun _ _ _=>trivial
theorem DH:aT X (binaryOp .BitOr) (bU X.kw (aK aW Builtin.bitOr)):=eP (aT.imp Eo fun _ _ _ _=>jx) fun _ _ _=>trivial
end
end L3
namespace TL
open PySem PySem.Spec PySem.SeqAt PyProof.Rows
open AutoSeq1 (wpAny_loadPart')
open MeetsSeq MeetsSeq2 MeetsSeq3 SeqRoads2
def HQ (A:Around)(s:Shared)(y x:Value)(b:Bool):Prop :=
 ∀(prog:Program) (w:World) (E:Value->Shared->Prop) (Q:Value->Shared->Prop),Q (.bool b) s->wpAny (model prog w) A (richCompare .Lt y x) Q E s
inductive Lex (A:Around)(s:Shared)(fin:Bool):List (Value×Value)->Bool->Prop
 | nil:Lex A s fin [] fin
 | eq {p q r k}:EqAt A s p q true->Lex A s fin r k->Lex A s fin ((p,q)::r) k
 | ne {p q r k}:EqAt A s p q false->HQ A s p q k->Lex A s fin ((p,q)::r) k
open PySem.W
end TL
namespace L3
open PySem PySem.Spec PyProof.Rows L2
def cQ (nn L:Nat)(t:FG)(c:FT)(e:FE):Nat->Sg->G->Option (List D×G)
 | 0,_,g=>(g[nn]?).bind fun xs=>if xs.length=L then some ([],g) else none
 | r+1,σ,g=>(g[nn]?).bind fun xs=>if xs.length=L then(xs[L-(r+1)]?).bind fun d=>(t d σ g).bind fun q=>(c q.1 q.2).bind fun k=>if k.1=true then(e q.1 k.2).bind fun r'=>(cQ nn L t c e r q.1 r'.2).bind fun z=>some (r'.1::z.1,z.2) else cQ nn L t c e r q.1 k.2 else none
theorem pe {nn L:Nat}{t:FG}{c:FT}{e:FE}{σ:Sg}{g g':G}{all:List D}(h:cQ nn L t c e 0 σ g=some (all,g')):∃xs,g[nn]? = some xs/\xs.length=L/\all = []/\g'=g:=by
 simp only [cQ] at h
 obtain⟨xs,hx,h⟩:=bind_some h
 split at h
 . rename_i z
   cases h
   exact⟨xs,hx,z,rfl,rfl⟩
 . cases h
theorem pA {nn L r:Nat}{t:FG}{c:FT}{e:FE}{σ:Sg}{g:G}{o:List D×G}(h:cQ nn L t c e (r+1) σ g=some o):∃xs d,g[nn]? = some xs/\xs.length=L/\xs[L-(r+1)]? = some d/\((t d σ g).bind fun q=>(c q.1 q.2).bind fun k=>if k.1=true then(e q.1 k.2).bind fun r'=>(cQ nn L t c e r q.1 r'.2).bind fun z=>some (r'.1::z.1,z.2) else cQ nn L t c e r q.1 k.2)=some o:=by
 simp only [cQ] at h
 obtain⟨xs,hx,h⟩:=bind_some h
 split at h
 . rename_i z
   obtain⟨d,hd,h⟩:=bind_some h
   exact⟨xs,d,hx,z,hd,h⟩
 . cases h
abbrev gi:=Sg->G->Option (Nat×Nat×G)
def kZ (K:KW)(J:It)(H:Hp)(ι:Ix)(nn L:Nat):Prop :=
 ∀(i:Nat) H1 ι1 g1,fz H ι H1 ι1->au K H1 ι1 g1->∀xs,g1[nn]? = some xs->xs.length=L->(L<=i->J.stop i H1) /\ ∀d,xs[i]? = some d->J.go i H1 /\ ∀x H2,J.yld i H1 x H2->Ext H1 ι1 H2 ι1/\au K H2 ι1 g1/\Rel K H2 ι1 d x
inductive B4 (K:KW)(f:gi)(σ:L2.St)(H:Hp)(R:(It->Hp->Prop)):Prop
 | mk (ι:Ix) (σd:Sg) (g:G) (nn:Nat) (L:Nat) (g':G) (h0:au K H ι g) (h1:aS K H ι σd σ) (h2:f σd g=some (nn,L,g')) (h3:∀H' ι' J,Ext H ι H' ι'->au K H' ι' g'->kZ K J H' ι' nn L->R J H'):B4 K f σ H R
structure Aw (X:Cx)(tg iter:Expr)(f:gi):Prop where of ::
 un:PI X tg iter (B4 X.kw f)
def vZ (f:FE):gi:=fun σ g=>(f σ g).bind fun r=>match r.1 with | .ref n=>(r.2[n]?).bind fun xs=>some (n,xs.length,r.2) | _=>none
theorem kZ.ref {K H ι a n L}(h:cW ι n a false):kZ K (wZ K a) H ι n L:=fun i H1 ι1 g1 e1 G1 xs hx hl=>by
 obtain⟨vs,hv,hr⟩:=G1.at hx (e1.at h)
 have hq:cw K H1 a vs:=.inl (.inl hv)
 refine⟨fun h=>⟨vs,hq,by rw [<- hr.length];omega⟩,fun d hd=>?_⟩
 obtain⟨v,hv',rv⟩:=hr.get hd
 refine⟨⟨vs,v,hq,hv'⟩,fun x H2 y=>?_⟩
 obtain⟨rfl,y⟩:=y
 have:=y vs hq
 rw [hv'] at this;cases this
 exact⟨Ext.refl,G1,rv⟩
theorem yw {X:Cx}{tg l:Expr}{fe:FE}(hl:DE X l fe):Aw X tg l (vZ fe):=.of (PI.imp (qq hl.un) fun σ H Q h=>by
 obtain⟨ι,σd,g,nn,L,g',G0,S0,h,p⟩:=h
 obtain⟨⟨d1,g1⟩,h1,h⟩:=bind_some h
 cases d1 with
 | ref n =>
  obtain⟨xs,hx,h⟩:=bind_some h
  cases h
  refine tD.bind G0 S0 h1 fun H1 ι1 v e1 G1 S1 r1=>?_
  simp only [Rel] at r1
  obtain⟨a,rfl,ha⟩:=r1
  obtain⟨vs,hv,hr⟩:=G1.at hx ha
  exact⟨a,rfl,⟨vs,.inl (.inl hv)⟩,p H1 ι1 _ e1 G1 (.ref ha)⟩
 | _=>cases h)
inductive oO (X':Cx)(t:FG)(c:FT)(e:FE)(fp:List Addr)(Dl:Addr)(tn:Nat->Heap->Prop)(nn L:Nat)(all:List D)(H1:Hp)(ι1:Ix)(g':G)(n:Nat)(s:Shared):Prop
 | mk (i:Nat) (σ:L2.St) (H:Hp) (ιo:Ix) (σd:Sg) (g:G) (vs:List V) (acc more:List D) (hn:n=L+1-i) (hil:i<=L) (I:Inv X' [] σ H s) (ti:tn i s.heap) (fri:∀b∈fp,H b=none) (E1:Ext H1 ι1 H ιo) (G1:au X'.kw H (Ix.hide ιo Dl) g) (S1:aS X'.kw H (Ix.hide ιo Dl) σd σ)
  (hHD:H Dl=some (.lst vs)) (racc:ag X'.kw H (Ix.hide ιo Dl) acc vs) (hal:acc.length<=i) (hf:cQ nn L t c e (L-i) σd g=some (more,g')) (ea:all=acc++more):oO X' t c e fp Dl tn nn L all H1 ι1 g' n s
theorem rL {X':Cx}{tg iter elt:Expr}{ifs:List Expr}{scope:Scope}{pos:Pos}{t:FG}{c:FT}{e:FE}{J:It}{fp:List Addr}{it Dl:Addr}{tn:Nat->Heap->Prop}{all:List D}{nn L:Nat}{H1:Hp}{ι1:Ix}{g':G}{R:Result->Shared->Prop}
   (hxe:X'.xe=fun _ _=>False) (hc:X'.calm=true) (T:Turn X'.prog X'.w X'.kw tg J fp it tn) (hfp:∀b∈fp,cE X' [] X'.H₀ b) (J1:kZ X'.kw J H1 ι1 nn L) (hD:H1 Dl=none) (hz:L<=sizeLine)
   (hg:DG X' tg t) (hi:dZ X' ifs c) (he:DE X' elt e)
   (fin:∀s' σ' H' ιo vs,Inv X' [] σ' H' s'->(∀b∈fp,H' b=none)->Ext H1 ι1 H' ιo->au X'.kw H' (Ix.hide ιo Dl) g'->H' Dl=some (.lst vs)->ag X'.kw H' (Ix.hide ιo Dl) all vs->R (.ok .next) s') :
   ∀(s:Shared) (σ:L2.St) (H:Hp) (ιo:Ix) (σd:Sg) (g:G),Inv X' [] σ H s->tn 0 s.heap->(∀b∈fp,H b=none)->Ext H1 ι1 H ιo->au X'.kw H (Ix.hide ιo Dl) g->aS X'.kw H (Ix.hide ιo Dl) σd σ->H Dl=some (.lst [])->cQ nn L t c e L σd g=some (all,g') ->
    codeAny (model X'.prog X'.w) X'.A (.compLoop (.ListComp elt [⟨tg,iter,ifs,0⟩] scope pos) 0 (.ref it) (.ref Dl) X'.env) R s:=by
 intro s σ H ιo σd g I t0 fr0 E0 G0 S0 hH hf0
 have stat:∀{H':Hp},(∀b∈fp,H' b=none)->∀b∈fp,cE X' [] H' b:=fun hn b hb=>⟨hn b hb,(hfp b hb).2⟩
 refine codeAny_loop rfl (oO X' t c e fp Dl tn nn L all H1 ι1 g') ?_ (L+1)
   ⟨0,σ,H,ιo,σd,g,[],[],all,rfl,Nat.zero_le _,I,t0,fr0,E0,G0,S0,hH,by simp [ag],Nat.le_refl _,by simpa using hf0,rfl⟩
 clear hf0 hH S0 G0 E0 fr0 t0 I g σd ιo H σ s
 rintro n s ⟨i,σ,H,ιo,σd,g,vs,acc,more,rfl,hil,I,ti,fri,E1,G1,S1,hHD,racc,hal,hf,rfl⟩
 show wpAny _ X'.A ((compTurn (.ListComp elt [⟨tg,iter,ifs,0⟩] scope pos) 0 (.ref it) (.ref Dl) X'.env).onRaise (fun x=>do noteFrame x X'.env;theTreesLotGoes x)) _ _ s
 refine wpAny_noted ?_
 rw [compTurn_list]
 refine wpAny_bind (wpAny_standAt (wpAny_bind ?_))
 have j1:=J1 i H (Ix.hide ιo Dl) g (E1.vS hD) G1
 by_cases hlt:i<L
 . rw [show L-i=(L-(i+1))+1 by omega] at hf
   obtain⟨xs,d0,hxs,hxl,hd0,hf⟩:=pA hf
   rw [show L-(L-(i+1)+1)=i by omega] at hd0
   obtain⟨st,go⟩:=j1 xs hxs hxl
   obtain⟨go,yl⟩:=go d0 hd0
   refine aI (T.item X' rfl rfl rfl hc i [] s σ H _ I (stat fri) ti go) fun r s4 ⟨u,hr,h4⟩=>?_
   subst hr
   refine wpAny_bind (aI h4 fun _ s5 ⟨x,H5,I5,r5,y5,t5,fr5⟩=>?_)
   obtain⟨e5,G5,rd5⟩:=yl x H5 y5
   obtain⟨⟨σ6,g6⟩,h6,hf⟩:=bind_some hf
   obtain⟨⟨k7,g7⟩,h7,hf⟩:=bind_some hf
   have I5':=I5.pinned (stat fr5) (T.obj _ _ t5)
   have lift:∀{α:Type} {tr:Sem α} {Q:α->Shared->Prop} {E:Value->Shared->Prop} {s:Shared},wpAny (model X'.prog X'.w) X'.A tr Q X'.xe s->wpAny (model X'.prog X'.w) X'.A tr Q E s:=fun h=>wpAny_mono h (fun _ _ q=>q) fun _ _ z=>by rw [hxe] at z;exact z.elim
   have again:∀{s9:Shared} {σ9:L2.St} {H9:Hp} {ι9:Ix} {σd9:Sg} {g9:G} {vs9:List V} {acc9:List D} {more9:List D},Inv X' ([]++gr fp s5.heap) σ9 H9 s9->Ext H1 ι1 H9 ι9->au X'.kw H9 (Ix.hide ι9 Dl) g9->aS X'.kw H9 (Ix.hide ι9 Dl) σd9 σ9 ->
     H9 Dl=some (.lst vs9)->ag X'.kw H9 (Ix.hide ι9 Dl) acc9 vs9->acc9.length<=i+1->cQ nn L t c e (L-(i+1)) σd9 g9=some (more9,g')->acc++more=acc9++more9 ->
     ∃m,m<L+1-i/\oO X' t c e fp Dl tn nn L (acc++more) H1 ι1 g' m s9:=by
    intro s9 σ9 H9 ι9 σd9 g9 vs9 acc9 more9 I9 E9 G9 S9 h9 r9 l9 f9 a9
    refine⟨L+1-(i+1),by omega,i+1,σ9,H9,ι9,σd9,g9,vs9,acc9,more9,rfl,hlt,I9.eZ,T.keep _ _ _ t5 fun b hb o e=>(I9.pin (b,o) (List.mem_append_right _ (List.mem_append_right _ (cO hb e)))).1,fun b hb=>?_,E9,G9,S9,h9,r9,l9,f9,a9⟩
    obtain⟨o,e,d⟩:=T.obj _ _ t5 b hb
    exact(I9.pin (b,o) (List.mem_append_right _ (List.mem_append_right _ (cO hb e)))).2.1
   refine wpAny_bind (lift (aI (hg.un _ s5 σ H5 x u (fun σ' H'=>∃ι6,Ext H5 (Ix.hide ιo Dl) H' ι6/\au X'.kw H' ι6 g6/\aS X'.kw H' ι6 σ6 σ') I5' r5 ⟨Ix.hide ιo Dl,σd,g,d0,σ6,g6,G5,S1.ext e5,rd5,h6,fun H6 ι6 σ6' e6 G6 S6=>⟨ι6,e6,G6,S6⟩⟩) fun _ s6 q6=>?_))
   obtain⟨σ6',H6,I6,ι6,e6,G6,S6⟩:=q6
   refine wpAny_bind (lift (aI (hi.un _ s6 σ6' H6 (fun b H'=>b=k7 /\ ∃ι7,Ext H6 ι6 H' ι7/\au X'.kw H' ι7 g7) I6 ⟨ι6,σ6,g6,k7,g7,G6,S6,h7,fun H7 ι7 e7 G7=>⟨rfl,ι7,e7,G7⟩⟩) fun ok s7 q7=>?_))
   obtain⟨H7,I7,rfl,ι7,e7,G7⟩:=q7
   have e57:=(e5.trans e6).trans e7
   obtain⟨E7,ei7⟩:=E1.jv e57
   have hD7:H7 Dl=some (.lst vs):=e57.same Dl _ hHD (G1.hid Dl List.mem_cons_self).1
   have r7:=ag.ext e57 _ racc
   have S7:=S6.ext e7
   cases ok with
   | false =>
    simp only [Bool.false_eq_true,if_false] at hf
    refine wpAny_pure ⟨rfl,?_⟩
    rw [ei7] at G7 S7 r7
    exact again I7 E7 G7 S7 hD7 r7 (by omega) hf rfl
   | true =>
    simp only [if_true] at hf
    obtain⟨⟨d8,g8⟩,h8,hf⟩:=bind_some hf
    obtain⟨⟨more9,g9⟩,h9,hf⟩:=bind_some hf
    obtain⟨rfl,rfl⟩:d8::more9=more/\g9=g':=by cases hf;exact⟨rfl,rfl⟩
    refine wpAny_bind (wpAny_bind (lift (aI (he.un _ s7 σ6' H7 (fun v H'=>∃ι8,Ext H7 ι7 H' ι8/\au X'.kw H' ι8 g8/\Rel X'.kw H' ι8 d8 v) I7 ⟨ι7,σ6,g7,d8,g8,G7,S7,h8,fun H8 ι8 v e8 G8 r8=>⟨ι8,e8,G8,r8⟩⟩) fun y s8 q8=>?_)))
    obtain⟨v8,H8,I8,rv8,ι8,e8,G8,r8⟩:=q8
    have e58:=e57.trans e8
    obtain⟨E8,ei8⟩:=E1.jv e58
    have hD8:H8 Dl=some (.lst vs):=e58.same Dl _ hHD (G1.hid Dl List.mem_cons_self).1
    have racc8:=ag.ext e58 _ racc
    have S8:=S7.ext e8
    have hlen:vs.length<sizeLine:=by rw [<- racc.length];omega
    rw [ei8] at G8 S8 racc8 r8
    refine wpAny_bind (lift (aI (gE (X:=X') _ s8 σ6' H8 (.ref Dl) [v8] (.ref Dl) [y] (fun _ H'=>H'=upd H8 Dl (.lst (vs ++ [v8]))) I8 rfl (.cons rv8 .nil) ⟨Dl,vs,v8,rfl,rfl,hD8,hlen,rfl⟩) fun _ s9 q9=>?_))
    obtain⟨_,H9,I9,_,rfl⟩:=q9
    refine wpAny_pure (wpAny_pure ⟨rfl,?_⟩)
    refine again (acc9:=acc ++ [d8]) I9 (E8.jr hD) (G8.grow hD8) ⟨S8.1,fun j d q=>let⟨v,a,b⟩:=S8.2 j d q;⟨v,a,Rel.grow hD8 d b⟩⟩ aR ?_ (by simp;omega) h9 (by simp)
    exact ag.append (ag.grow hD8 _ racc8) (by simp only [ag];exact⟨v8,[],rfl,Rel.grow hD8 _ r8,rfl⟩)
 . have ei:i=L:=by omega
   subst ei
   rw [Nat.sub_self] at hf
   obtain⟨xs,hxs,hxl,rfl,rfl⟩:=pe hf
   obtain⟨st,go⟩:=j1 xs hxs hxl
   refine aI (T.done X' rfl rfl rfl hc _ [] s σ H _ I (stat fri) ti (st (Nat.le_refl _))) fun r s4 ⟨hr,I4⟩=>?_
   subst hr
   exact wpAny_pure (fin s4 σ H ιo vs I4 fri E1 G1 hHD (by simpa using racc))
def oj (mk:List D->G->Option (D×G))(fi:gi)(fr:List (Option Nat))(t:FG)(c:FT)(e:FE):FE:=fun σ g=>(fi σ g).bind fun r=>if aD r.2.1=true then(cQ r.1 r.2.1 t c e r.2.1 (bu fr σ) r.2.2).bind fun q=>mk q.1 q.2 else none
section
variable {X:Cx}{tg iter elt:Expr}{ifs:List Expr}{scope:Scope}{pos cpos:Pos}{N:List Str}{fr:List (Option Nat)}{fi:gi}{t:FG}{c:FT}{e:FE}
theorem qE {pins:List (Addr×Obj)}{s:Shared}{σ:L2.St}{H:Hp}{ι:Ix}{σd:Sg}{g g1 g':G}{all:List D}{nn L:Nat}{use:Option (Value->Sem Unit)}{Q:Value->Shared->Prop}
  (hxe:X.xe=fun _ _=>False) (hc:X.calm=true) (ok:du X N fr scope) (hit:Aw X tg iter fi) (hin:∀C s3 H fp pins,DG (aV X N scope C s3 H fp pins) tg t/\dZ (aV X N scope C s3 H fp pins) ifs c/\DE (aV X N scope C s3 H fp pins) elt e)
  (hs:∀x,foldedSetIterable iter X.env x=pure x) (I:Inv X pins σ H s) (G0:au X.kw H ι g) (S0:aS X.kw H ι σd σ) (h1:fi σd g=some (nn,L,g1)) (hz:aD L=true) (h2:cQ nn L t c e L (bu fr σd) g1=some (all,g'))
  (fin:∀s' H' ιo vs Dl C,Inv X pins σ H' s'->cE X pins H' C->(∃m,s'.heap.Ns C m)->Ext H ι H' ιo->au X.kw H' (Ix.hide ιo Dl) g'->H' Dl=some (.lst vs)->ag X.kw H' (Ix.hide ιo Dl) all vs->Dl ∉ ιo.hd->H Dl=none->compPost (model X.prog X.w) X.A X.xe use Q (.ref Dl) C (.ok .next) s') :
  wpAny (model X.prog X.w) X.A (comprehension (.ListComp elt [⟨tg,iter,ifs,0⟩] scope pos) scope X.env cpos (newList []) false (eval iter X.env) use) Q X.xe s:=by
 have free:∀x∈scope.names,x.2 = .free->∃c,X.env.cells.lookup x.1=some c:=fun x hx hk=>I.ok.has x.1 (ok.free x hx hk).2
 refine wpAny_comprehension_free (use:=use) rfl hs (fI free) ok.kind ok.names (aI (hit.un pins s σ H (fun J H'=>∃ι1,Ext H ι H' ι1/\au X.kw H' ι1 g1/\kZ X.kw J H' ι1 nn L) I ⟨ι,σd,g,nn,L,g1,G0,S0,h1,fun H1 ι1 J e1 G1 J1=>⟨ι1,e1,G1,J1⟩⟩) fun xv s1 h1'=>aI h1' fun itv s2 q2=>?_)
 obtain⟨it,fp,tn,J,H1,rfl,I1,T,t1,f1,ι1,e1,G1,J1⟩:=q2
 refine wpAny_newObj_type ?_
 have hDn:H1 s2.heap.objs.size=none:=I1.hok.fresh (Nat.le_refl _)
 generalize hs3:({ s2 with heap:=s2.heap.push { cls:=.type "list",dict:=none,data:=.seq ([]:List Value).toArray } }:Shared)=s3
 have I3:Inv X pins σ (upd H1 s2.heap.objs.size (.lst [])) s3:=by
  rw [<- hs3]
  exact I1.laid (t':=s2.toks) (fun b u e=>Heap.get?_push_of_some _ e) (Nat.le_refl _) ⟨Nat.zero_le _,[],0,.nil,Heap.get?_push_size _ rfl⟩
 have k3:∀b o,s2.heap.get? b=some o->s3.heap.get? b=some o:=fun b o e=>by rw [<- hs3];exact Heap.get?_push_of_some _ e
 have sz3:s3.heap.objs.size=s2.heap.objs.size+1:=by rw [<- hs3];exact Heap.size_push ..
 have hfl:∀b∈fp,b<s2.heap.objs.size:=fun b hb=>let⟨o,eo,_⟩:=T.obj _ _ t1 b hb;Heap.lt_size eo
 have f3:∀b∈fp,cE X pins (upd H1 s2.heap.objs.size (.lst [])) b:=fun b hb=>⟨by rw [aJ (Nat.ne_of_lt (hfl b hb))];exact(f1 b hb).1,(f1 b hb).2⟩
 refine gK (rP I3) fun h4 hns' k4 kc=>?_
 have I4:=il (tk:=s3.toks) ok I3 f3 (fun b hb=>by rw [sz3];exact Nat.lt_succ_of_lt (hfl b hb)) hns' k4 kc
 obtain⟨hg,hi,he⟩:=hin s3.heap.objs.size s3 (upd H1 s2.heap.objs.size (.lst [])) fp pins
 have t4:tn 0 h4:=T.keep _ _ _ t1 fun b hb o e=>k4 b o (k3 b o e)
 have fx:∀b∈fp,cE (aV X N scope s3.heap.objs.size s3 (upd H1 s2.heap.objs.size (.lst [])) fp pins) [] (upd H1 s2.heap.objs.size (.lst [])) b:=fun b hb=>by
  refine⟨(f3 b hb).1,?_,?_,.inl hb,?_,?_⟩
  . exact Nat.ne_of_lt (by rw [sz3];exact Nat.lt_succ_of_lt (hfl b hb))
  . exact I4.ok.exfs b hb
  . exact(I4.ok.exf b hb).2
  . intro p hp
    have hp':p∈X.pn++pins:=by
      have q:p∈(X.pn++pins) ++ []:=hp
      simpa using q
    exact(f1 b hb).2.2.2.2.2 p hp'
 have loop:codeAny (model X.prog X.w) X.A (.compLoop (.ListComp elt [⟨tg,iter,ifs,0⟩] scope pos) 0 (.ref it) (.ref s2.heap.objs.size) (compEnvC scope (cellsOf scope X.env s3.heap.objs.size) s3.heap.objs.size X.env))
    (compPost (model X.prog X.w) X.A X.xe use Q (.ref s2.heap.objs.size) s3.heap.objs.size) { s3 with heap:=h4 }:=by
  refine rL (X':=aV X N scope s3.heap.objs.size s3 (upd H1 s2.heap.objs.size (.lst [])) fp pins) (all:=all) (g':=g') rfl hc T fx J1 hDn (aD.le hz) hg hi he ?_ _ _ _ ι1 (bu fr σd) g1 I4 t4 (fun b hb=>(f3 b hb).1) ((Ext.refl (H:=H1) (ι:=ι1)).jr hDn) (G1.hide hDn) ?_ aR h2
  . intro s' σ' H' ιo vs I' fr' E' G' hD' r'
    have I5:Inv X pins σ H' s':=I3.rF (ch:=fp) I'.os I'.base I'.hok I'.bare fun b hb=>⟨(f3 b hb).2.2.2.1,(f3 b hb).2.1,(f3 b hb).2.2.2.2.1,(f3 b hb).2.2.2.2.2⟩
    obtain⟨m,hm,_⟩:=I'.loc
    refine fin s' H' ιo vs _ _ I5 ?_ ⟨m,hm⟩ (e1.trans E') G' hD' r' ?_ ?_
    . have z:=I3.fF (H':=H') (b:=s3.heap.objs.size) (Nat.le_refl _) I'.free
      exact z
    . rw [E'.hid];exact G1.gW hDn
    . cases q:H s2.heap.objs.size with
      | none=>rfl
      | some o=>exact absurd hDn (e1.there _ (by rw [q];simp))
  . have S1:aS X.kw H1 ι1 (bu fr σd) (bu fr σ):=(S0.ext e1).sub fr
    exact⟨S1.1,fun j d q=>let⟨v,a,b⟩:=S1.2 j d q;⟨v,a,Rel.hide hDn d b⟩⟩
 exact codeAny_compStart_list loop (T.self _ 0 _ _ _ t4 loop)
theorem wt (hxe:X.xe=fun _ _=>False)(hc:X.calm=true)(ok:du X N fr scope)(hit:Aw X tg iter fi)(hin:∀C s3 H fp pins,DG (aV X N scope C s3 H fp pins) tg t/\dZ (aV X N scope C s3 H fp pins) ifs c/\DE (aV X N scope C s3 H fp pins) elt e)
   (hs:∀x,foldedSetIterable iter X.env x=pure x:=by intro _;rfl):DE X (.ListComp elt [⟨tg,iter,ifs,0⟩] scope pos) (oj bB fi fr t c e):=.of (by
 intro pins s σ H Q I h
 obtain⟨ι,σd,g,d,gg,G0,S0,h,p⟩:=h
 obtain⟨⟨nn,L,g1⟩,h1,h⟩:=bind_some h
 dsimp only at h
 split at h
 . rename_i hz
   obtain⟨⟨all,g'⟩,h2,h⟩:=bind_some h
   rw [eval_ListComp]
   refine qE (use:=none) hxe hc ok hit hin hs I G0 S0 h1 hz h2 fun s' H' ιo vs Dl C I' fC ⟨m,hm⟩ e' G' hD r hn hf0=>?_
   refine⟨m,hm,fun h'' sb=>⟨.ref Dl,H',?_,rfl,iF e' G' hD r hn h p⟩⟩
   obtain⟨f0,f1,f2,f3,f4,f5⟩:=fC
   exact I'.turned (t':=s'.toks) (fun b o hb e=>sb.extBut b o hb e) f0 f1 f3 f4 f5
 . cases h)
end
section
variable {σ:Sg}{g:G}{fa:FE}
@[simp] theorem IC:vZ fa σ g=(fa σ g).bind fun r=>match r.1 with | .ref n=>(r.2[n]?).bind fun xs=>some (n,xs.length,r.2) | _=>none:=rfl
@[simp] theorem FH {mk:List D->G->Option (D×G)}{fi:gi}{fr:List (Option Nat)}{t:FG}{c:FT}:oj mk fi fr t c fa σ g=(fi σ g).bind fun r=>if aD r.2.1=true then(cQ r.1 r.2.1 t c fa r.2.1 (bu fr σ) r.2.2).bind fun q=>mk q.1 q.2 else none:=rfl
end
def bK:FE:=fun _ _=>none
theorem bz {X:Cx}{e:Expr}:DE X e bK:=.of (fun pins s σ H Q I h=>by
 obtain⟨ι,σd,g,d,g',G0,S0,h,p⟩:=h
 cases h)
@[simp] theorem HF {σ:Sg}{g:G}:bK σ g=none:=rfl
end L3
namespace L3
open PySem PySem.Spec PyProof.Rows L2
open Sem (wp)
open Builtin
end L3
namespace L3
open PySem PySem.Spec PyProof.Rows L2
end L3
namespace DK
open PySem PySem.Spec PyProof.Rows L2 L3 SeqAt
def dC (s:Shared)(m:Nat)(u:Value):Prop:=∀(prog:Program) (w:World) (A:Around) (E:Value->Shared->Prop) (Q:Bool->Shared->Prop),Q true s->wpAny (model prog w) A (eqIsQuiet m u) Q E s
structure wQ (A:Around)(s:Shared)(key:Value)(h:Int)(es:Array DictEntry)(t:Nat->Bool):Prop where
 eq:∀i e,es[i]? = some e->e.hash=h->EqAt A s e.key key (t i)
 hs:∀i e,es[i]? = some e->t i=true->e.hash=h
 qk:dC s 8 key
 qe:∀e∈es,dC s 8 e.key
 rf:∀e∈es,e.key=key->e.hash=h
 un:∀i j,i<es.size->j<es.size->t i=true->t j=true->i=j
 st:∀x tk,key = .str x tk->∀i e,es[i]? = some e->isExactStrKey e.key=true->e.key.isStr x=t i
section
variable {prog:Program}{w:World}{A:Around}{E:Value->Shared->Prop}{s:Shared}{d:Addr}{o:Obj}{es:Array DictEntry}{ep:Nat}{key:Value}{h:Int}{t:Nat->Bool}{Q:Option Nat->Shared->Prop}
theorem jU {stored:List Value}{Q:Bool->Shared->Prop}(hk:dC s 8 key)(hst:∀v∈stored,dC s 8 v)(q:Q false s):wpAny (model prog w) A (tableMayTell key stored) Q E s:=by
 unfold tableMayTell
 split
 . exact wpAny_pure q
 refine wpAny_bind (hk prog w _ _ _ ?_)
 simp only [Bool.not_true,Bool.false_eq_true,if_false]
 refine wpAny_bind (wpAny_forIn_list _ (fun rest r z=>z=s/\r=(none,()) /\ ∀v∈rest,dC s 8 v) _ ?_ ?_ _ _ ⟨rfl,rfl,hst⟩)
 . rintro x rest r z ⟨rfl,rfl,hr⟩
   refine wpAny_bind (hr x List.mem_cons_self prog w _ _ _ ?_)
   simp only [Bool.not_true,Bool.false_eq_true,if_false]
   exact wpAny_pure ⟨rfl,rfl,fun v hv=>hr v (List.mem_cons_of_mem _ hv)⟩
 . rintro r z ⟨rfl,rfl,_⟩
   exact wpAny_pure q
theorem iH {i:Nat}:i∈placesWithHash es.size (fun i=>es[i]?.map (·.hash)) h ↔ ∃e,es[i]? = some e/\e.hash=h:=by
 unfold placesWithHash
 simp only [List.mem_filter,List.mem_range,beq_iff_eq,Option.map_eq_some_iff]
 constructor
 . rintro⟨_,e,a,b⟩;exact⟨e,a,b⟩
 . rintro⟨e,a,b⟩;exact⟨(Array.getElem?_eq_some_iff.mp a).1,e,a,b⟩
theorem oy:(placesWithHash es.size (fun i=>es[i]?.map (·.hash)) h).Nodup:=by
 unfold placesWithHash
 exact List.nodup_range.sublist List.filter_sublist
theorem lx (ho:s.heap.get? d=some o)(hd:o.data = .dict es ep)(K:wQ A s key h es t)(hn:(∀i,i<es.size->t i=false)->Q none s)(hy:∀i,i<es.size->t i=true->Q (some i) s) :
  wpAny (model prog w) A (dictFind d key h) Q E s:=by
 have none_of:(∀i∈placesWithHash es.size (fun i=>es[i]?.map (·.hash)) h,t i=false)->Q none s:=fun z=>hn fun i hi=>by
  cases ht:t i with
  | false=>rfl
  | true =>
    have e1:=Array.getElem?_eq_getElem hi
    rw [z i (iH.mpr ⟨_,e1,K.hs i _ e1 ht⟩)] at ht;cases ht
 have gen:∀tells:Bool,tells=false->wpAny (model prog w) A (do
    let mut hit:Option Nat:=none
    for i in placesWithHash es.size (fun i=>es[i]?.map (·.hash)) h do
      if let some e:=es[i]? then
        if e.hash == h then
          let before <- dictEpoch d (keyPart key)
          let same <- eqBool e.key key
          if(<- dictEpoch d (keyPart key)) != before then unsupported "dict.changed-during-lookup"
          if same then
            if hit.isSome then unsupported "dict.find:order-among-keys-of-one-hash"
            rule "dict.find.hit"
            if((placesWithHash es.size (fun i=>es[i]?.map (·.hash)) h).filterMap fun i=>es[i]?.map (·.key)).length<2 then return some i
            hit:=some i
          else
            rule "dict.find.same-hash-other-key"
            if tells && !(0<=h&&h<32) then unsupported "dict.find:asked-again-or-not-hangs-on-the-table"
    return hit) Q E s:=fun tells htl=>by
  subst htl
  refine wpAny_bind (wpAny_forIn_list _ (fun rest (b:Option (Option Nat)×Option Nat) z=>z=s /\ ∃done,placesWithHash es.size (fun i=>es[i]?.map (·.hash)) h=done++rest/\b.1=none /\
    ((b.2=none /\ ∀i∈done,t i=false) \/ ∃i,b.2=some i/\i∈done/\i<es.size/\t i=true)) _ ?_ ?_ _ _ ⟨rfl,[],rfl,rfl,.inl ⟨rfl,fun i z=>by simp at z⟩⟩)
  . rintro x rest ⟨b1,hit⟩ z ⟨rfl,done,hp,rfl,hb⟩
    have hx:x∈placesWithHash es.size (fun i=>es[i]?.map (·.hash)) h:=by rw [hp];simp
    obtain⟨e,he,hh⟩:=iH.mp hx
    have hlt:x<es.size:=(Array.getElem?_eq_some_iff.mp he).1
    have hp2:placesWithHash es.size (fun i=>es[i]?.map (·.hash)) h=(done ++ [x])++rest:=by rw [hp];simp
    rw [he]
    dsimp only at hb ⊢
    rw [if_pos (by simpa using hh)]
    refine wpAny_bind (wpAny_dictEpoch ho hd (wpAny_bind (K.eq x e he hh prog w _ _ (wpAny_bind (wpAny_dictEpoch ho hd ?_)))))
    rw [if_neg (by simp)]
    cases ht:t x with
    | true =>
      have h0:hit=none:=by
        rcases hb with⟨h0,_⟩ | ⟨i,_,hi,hil,hti⟩
        . exact h0
        . have:=K.un i x hil hlt hti ht
          subst this
          have nd:=oy (es:=es) (h:=h)
          rw [hp,List.nodup_append] at nd
          exact absurd rfl (nd.2.2 i hi i List.mem_cons_self)
      subst h0
      simp only [if_true,Option.isSome_none,Bool.false_eq_true,if_false]
      try refine wpAny_bind (wpAny_pure ?_)
      refine wpAny_bind (wpAny_rule ?_)
      split
      . exact wpAny_pure (wpAny_pure (hy x hlt ht))
      . exact wpAny_pure ⟨rfl,done ++ [x],hp2,rfl,.inr ⟨x,rfl,by simp,hlt,ht⟩⟩
    | false =>
      simp only [Bool.false_eq_true,if_false,Bool.false_and]
      refine wpAny_bind (wpAny_rule ?_)
      refine wpAny_pure ⟨rfl,done ++ [x],hp2,rfl,?_⟩
      rcases hb with⟨h0,hz⟩ | ⟨i,h1,hi,hil,hti⟩
      . exact .inl ⟨h0,fun i hi=>by
          rcases List.mem_append.mp hi with hi | hi
          . exact hz i hi
          . simp at hi;subst hi;exact ht⟩
      . exact .inr ⟨i,h1,List.mem_append.mpr (.inl hi),hil,hti⟩
  . rintro⟨b1,hit⟩ z ⟨rfl,done,hp,rfl,hb⟩
    dsimp only at hb ⊢
    refine wpAny_pure ?_
    rcases hb with⟨rfl,hz⟩ | ⟨i,rfl,_,hil,hti⟩
    . exact none_of (by rw [hp];simpa using hz)
    . exact hy i hil hti
 have plain:wpAny (model prog w) A (dictWalkPlain d key h es (placesWithHash es.size (fun i=>es[i]?.map (·.hash)) h)) Q E s:=by
  unfold dictWalkPlain
  refine wpAny_bind (wpAny_forIn_list _ (fun rest b z=>z=s /\ ∃done,placesWithHash es.size (fun i=>es[i]?.map (·.hash)) h=done++rest/\b=(none,()) /\ ∀i∈done,t i=false) _ ?_ ?_ _ _ ⟨rfl,[],rfl,rfl,fun i z=>by simp at z⟩)
  . rintro x rest b z ⟨rfl,done,hp,rfl,hb⟩
    have hx:x∈placesWithHash es.size (fun i=>es[i]?.map (·.hash)) h:=by rw [hp];simp
    obtain⟨e,he,hh⟩:=iH.mp hx
    have hlt:x<es.size:=(Array.getElem?_eq_some_iff.mp he).1
    rw [he]
    dsimp only
    rw [if_pos (by simpa using hh)]
    refine wpAny_bind (wpAny_dictEpoch ho hd (wpAny_bind (K.eq x e he hh prog w _ _ (wpAny_bind (wpAny_dictEpoch ho hd ?_)))))
    rw [if_neg (by simp)]
    cases ht:t x with
    | true =>
      simp only [if_true]
      refine wpAny_bind (wpAny_rule ?_)
      exact wpAny_pure (wpAny_pure (hy x hlt ht))
    | false =>
      simp only [Bool.false_eq_true,if_false]
      refine wpAny_bind (wpAny_rule ?_)
      refine wpAny_pure ⟨rfl,done ++ [x],by rw [hp];simp,rfl,fun i hi=>?_⟩
      rcases List.mem_append.mp hi with hi | hi
      . exact hb i hi
      . simp at hi;subst hi;exact ht
  . rintro b z ⟨rfl,done,hp,rfl,hb⟩
    exact wpAny_pure (none_of (by rw [hp];simpa using hb))
 have keys:∀v∈(placesWithHash es.size (fun i=>es[i]?.map (·.hash)) h).filterMap (fun i=>es[i]?.map (·.key)),dC s 8 v:=fun v hv=>by
  obtain⟨i,_,hi⟩:=List.mem_filterMap.mp hv
  obtain⟨e,he,rfl⟩:=Option.map_eq_some_iff.mp hi
  exact K.qe e (Array.mem_of_getElem? he)
 unfold dictFind
 refine wpAny_holding ?_
 refine wpAny_bind (wpAny_dictEntries ho hd ?_)
 cases key with
 | str x tk =>
  refine wpAny_ite_split (fun hall=>?_) (fun _=>?_)
  . unfold foundByValue
    have ft:∀i e,es[i]? = some e->e.key.isStr x=t i:=fun i e he=>K.st x tk rfl i e he (Array.all_eq_true_iff_forall_mem.mp hall e (Array.mem_of_getElem? he))
    cases hf:es.findIdx? (·.key.isStr x) with
    | none =>
      refine wpAny_pure (hn fun i hi=>?_)
      rw [<- ft i _ (Array.getElem?_eq_getElem hi)]
      simpa using (Array.findIdx?_eq_none_iff.mp hf) es[i] (Array.getElem_mem hi)
    | some i =>
      obtain⟨hi,h1,_⟩:=Array.findIdx?_eq_some_iff_getElem.mp hf
      have e1:=Array.getElem?_eq_getElem hi
      rw [ft i _ e1] at h1
      dsimp only
      rw [e1]
      refine wpAny_bind (wpAny_dictEpoch ho hd (wpAny_bind (K.eq i _ e1 (K.hs i _ e1 h1) prog w _ _ (wpAny_bind (wpAny_dictEpoch ho hd ?_)))))
      refine wpAny_ite_split (fun z=>by simp at z) (fun _=>?_)
      rw [h1]
      exact wpAny_bind (wpAny_rule (wpAny_pure (hy i hi h1)))
  . refine wpAny_ite_split (fun _=>plain) (fun _=>?_)
    refine wpAny_ite_split (fun _=>wpAny_bind (wpAny_pure ?_)) (fun _=>wpAny_bind (jU K.qk keys ?_)) <;>
      exact wpAny_ite_split (fun z=>by simp at z) (fun _=>gen false rfl)
 | ref a =>
  refine wpAny_ite_split (fun z=>by simp [carriedByValue] at z) (fun _=>?_)
  refine wpAny_ite_split (fun z=>?_) (fun _=>?_)
  . rw [<- Array.any_toList,List.any_eq_true] at z
    obtain⟨e,he,hc⟩:=z
    simp only [Bool.and_eq_true,beq_iff_eq,bne_iff_ne,ne_eq] at hc
    exact absurd (K.rf e (Array.mem_toList_iff.mp he) hc.1) hc.2
  . refine wpAny_ite_split (fun _=>wpAny_bind (wpAny_pure ?_)) (fun _=>wpAny_bind (jU K.qk keys ?_)) <;>
      exact wpAny_ite_split (fun z=>by simp at z) (fun _=>gen false rfl)
 | _ =>
  refine wpAny_ite_split (fun _=>plain) (fun _=>?_)
  refine wpAny_ite_split (fun _=>wpAny_bind (wpAny_pure ?_)) (fun _=>wpAny_bind (jU K.qk keys ?_)) <;>
    exact wpAny_ite_split (fun z=>by simp at z) (fun _=>gen false rfl)
end
section
variable {X:Cx}{pins:List (Addr×Obj)}{σ:L2.St}{H:Hp}{ι:Ix}{prog:Program}{E:Value->Shared->Prop}
mutual
theorem ki:∀(d:D) {n:Nat} {s:Shared} {A:Around} {x:V} {u:Value} {Q:Int->Shared->Prop},Inv X pins σ H s->bh n d=true->Rel X.kw H ι d x->RelV x u->A.units+n<cLine ->
  (∀tk,Q (hD X.w d) { s with toks:=tk })->wpAny (model prog X.w) A (pyHash u) Q E s
 | .non,n,s,A,x,u,Q,I,k,r,ru,hu,q=>by
  simp only [Rel] at r;subst r;cases ru
  simp only [hD] at q
  exact PySem.W.pyHash_slot (T:="NoneType") rfl F.slot_NoneType_hash F.entry_NoneType_hash (F.args_NoneType_hash_1 _) (beq_builtin_none _) (.inr (by omega)) (wpAny_bind (wpAny_pure (wpAny_bind (wpAny_mkInt (wpAny_pure ⟨_,_,rfl,q _⟩)))))
 | .int i,n,s,A,x,u,Q,I,k,r,ru,hu,q=>by
  simp only [Rel] at r;subst r;obtain⟨t,rfl⟩:=ru
  simp only [hD] at q
  exact wpAny_pyHash_int (q _)
 | .str y,n,s,A,x,u,Q,I,k,r,ru,hu,q=>by
  simp only [Rel] at r;subst r;obtain⟨t,rfl⟩:=ru
  simp only [hD] at q
  exact wpAny_pyHash_str (q _)
 | .tup xs,n+1,s,A,x,u,Q,I,k,r,ru,hu,q=>by
  simp only [Rel] at r
  obtain⟨a,vs,rfl,hq,hr⟩:=r
  cases ru
  obtain⟨its,rits,⟨o,h1,h2,m,h3⟩,_⟩:=I.tuple hq.sq
  simp only [hD] at q
  simp only [bh] at k
  refine PySem.W.pyHash_slot (T:="tuple") ⟨o,h1,h2⟩ F.slot_tuple_hash F.entry_tuple_hash (F.args_tuple_hash_1 _) (beq_builtin_none _) (.inr (by omega)) ?_
  show wpAny _ _ (Builtin.Tuple.tupleItemsOf (.ref a) >>= _) _ _ s
  refine wpAny_bind (wpAny_tupleItemsOf h1 h3 (wpAny_bind ?_))
  rw [<- Array.forIn_toList]
  refine qm xs (acc:=#[]) I k hr rits (by rw [in1_units];omega) fun tk b hb=>?_
  show wpAny _ _ (retInt (Builtin.Tuple.tupleHashOf b.toList)) _ _ _
  rw [hb]
  exact wpAny_bind (wpAny_mkInt (wpAny_pure ⟨_,_,rfl,q _⟩))
 | .tup xs,0,s,A,x,u,Q,I,k,r,ru,hu,q=>by simp [bh] at k
 | .bl _,n,s,A,x,u,Q,I,k,r,ru,hu,q=>by simp [bh] at k
 | .lst _,n,s,A,x,u,Q,I,k,r,ru,hu,q=>by simp [bh] at k
 | .edc,n,s,A,x,u,Q,I,k,r,ru,hu,q=>by simp [bh] at k
 | .ref _,n,s,A,x,u,Q,I,k,r,ru,hu,q=>by simp [bh] at k
 | .aQ _,n,s,A,x,u,Q,I,k,r,ru,hu,q=>by simp [bh] at k
 | .fn _,n,s,A,x,u,Q,I,k,r,ru,hu,q=>by simp [bh] at k
theorem qm:∀(ds:List D) {n:Nat} {s:Shared} {A:Around} {vs:List V} {us:List Value} {acc:Array Int} {Q:Array Int->Shared->Prop},Inv X pins σ H s->di n ds=true->ag X.kw H ι ds vs->Vals vs us->A.units+n<cLine ->
  (∀tk b,b.toList=acc.toList++sM X.w ds->Q b { s with toks:=tk }) ->
  wpAny (model prog X.w) A (forIn us acc fun x r=>do let h <- pyHash x;pure PUnit.unit;pure (ForInStep.yield (r.push h))) Q E s
 | [],n,s,A,vs,us,acc,Q,I,k,r,ru,hu,q=>by
  simp only [ag] at r;subst r;cases ru
  exact wpAny_pure (q s.toks acc (by simp [sM]))
 | d::ds,n,s,A,vs,us,acc,Q,I,k,r,ru,hu,q=>by
  simp only [ag] at r
  obtain⟨v,vr,rfl,hv,hr⟩:=r
  simp only [di,Bool.and_eq_true] at k
  cases ru with
  | cons r0 rr =>
   rw [List.forIn_cons]
   refine wpAny_bind (wpAny_bind (ki d I k.1 hv r0 hu fun tk=>wpAny_bind (wpAny_pure (wpAny_pure ?_))))
   exact qm ds (I.tok tk) k.2 hr rr hu fun tk' b hb=>q tk' b (by simp [hb,sM])
end
mutual
theorem lP:∀(d:D) {n m:Nat} {s:Shared} {x:V} {u:Value},Inv X pins σ H s->bh n d=true->n<=m->Rel X.kw H ι d x->RelV x u->dC s m u
 | .non,n,m,s,x,u,I,k,hm,r,ru=>by
  simp only [Rel] at r;subst r;cases ru
  intro prog w A E Q q;unfold eqIsQuiet;exact wpAny_pure q
 | .int i,n,m,s,x,u,I,k,hm,r,ru=>by
  simp only [Rel] at r;subst r;obtain⟨t,rfl⟩:=ru
  intro prog w A E Q q;unfold eqIsQuiet;exact wpAny_pure q
 | .str y,n,m,s,x,u,I,k,hm,r,ru=>by
  simp only [Rel] at r;subst r;obtain⟨t,rfl⟩:=ru
  intro prog w A E Q q;unfold eqIsQuiet;exact wpAny_pure q
 | .tup xs,n+1,m,s,x,u,I,k,hm,r,ru=>by
  simp only [Rel] at r
  obtain⟨a,vs,rfl,hq,hr⟩:=r
  cases ru
  obtain⟨its,rits,⟨o,h1,h2,z,h3⟩,_⟩:=I.tuple hq.sq
  simp only [bh] at k
  intro prog w A E Q q
  have hT:s.TypeIs (.ref a) "tuple":=⟨o,h1,h2⟩
  obtain⟨m,rfl⟩:∃j,m=j+1:=⟨m-1,by omega⟩
  unfold eqIsQuiet
  refine wpAny_bind (wpAny_specialOf hT F.slot_tuple_eq.lookup ?_)
  show wpAny _ _ (isInstance (.ref a) (.type "tuple") >>= _) _ _ s
  refine wpAny_bind (wpAny_isInstance hT isSubtype_tuple_tuple ?_)
  simp only [Bool.not_true,Bool.false_eq_true,if_false]
  refine wpAny_bind (wpAny_seqItems h1 h3 (wpAny_bind ?_))
  show wpAny _ _ (forIn its.toArray _ _) _ _ s
  rw [<- Array.forIn_toList]
  have hqs:=nM xs (m:=m) I k (by omega) hr rits
  refine wpAny_forIn_list _ (fun rest r s'=>r.1=none/\s'=s /\ ∀v∈rest,dC s m v) _ ?_ ?_ _ _ ⟨rfl,rfl,hqs⟩
  . rintro v rest r s' ⟨hr,rfl,hall⟩
    refine wpAny_bind (hall v List.mem_cons_self prog w _ _ _ ?_)
    simp only [Bool.not_true,Bool.false_eq_true,if_false]
    exact wpAny_pure ⟨rfl,rfl,fun u hu'=>hall u (List.mem_cons_of_mem _ hu')⟩
  . rintro⟨r1,r2⟩ s' ⟨hr,rfl,_⟩
    simp only at hr
    subst hr
    exact wpAny_pure q
 | .tup xs,0,m,s,x,u,I,k,hm,r,ru=>by simp [bh] at k
 | .bl _,n,m,s,x,u,I,k,hm,r,ru=>by simp [bh] at k
 | .lst _,n,m,s,x,u,I,k,hm,r,ru=>by simp [bh] at k
 | .edc,n,m,s,x,u,I,k,hm,r,ru=>by simp [bh] at k
 | .ref _,n,m,s,x,u,I,k,hm,r,ru=>by simp [bh] at k
 | .aQ _,n,m,s,x,u,I,k,hm,r,ru=>by simp [bh] at k
 | .fn _,n,m,s,x,u,I,k,hm,r,ru=>by simp [bh] at k
theorem nM:∀(ds:List D) {n m:Nat} {s:Shared} {vs:List V} {us:List Value},Inv X pins σ H s->di n ds=true->n<=m->ag X.kw H ι ds vs->Vals vs us->∀v∈us,dC s m v
 | [],n,m,s,vs,us,I,k,hm,r,ru=>by
  simp only [ag] at r;subst r;cases ru
  intro v hv;simp at hv
 | d::ds,n,m,s,vs,us,I,k,hm,r,ru=>by
  simp only [ag] at r
  obtain⟨v,vr,rfl,hv,hr⟩:=r
  simp only [di,Bool.and_eq_true] at k
  cases ru with
  | cons r0 rr =>
   intro z hz
   rcases List.mem_cons.mp hz with rfl | hz
   . exact lP d I k.1 hm hv r0
   . exact nM ds I k.2 hm hr rr z hz
end
end
mutual
theorem gq:∀(d:D) {n:Nat},bh n d=true->flat d=true/\dep d<=n
 | .non,n,h=>⟨rfl,Nat.zero_le _⟩
 | .int _,n,h=>⟨rfl,Nat.zero_le _⟩
 | .str _,n,h=>⟨rfl,Nat.zero_le _⟩
 | .tup xs,n+1,h=>by
  simp only [bh] at h
  obtain⟨a,b⟩:=mI xs h
  exact⟨a,by simp only [dep];omega⟩
 | .tup xs,0,h=>by simp [bh] at h
 | .bl _,n,h=>by simp [bh] at h
 | .lst _,n,h=>by simp [bh] at h
 | .edc,n,h=>by simp [bh] at h
 | .ref _,n,h=>by simp [bh] at h
 | .aQ _,n,h=>by simp [bh] at h
 | .fn _,n,h=>by simp [bh] at h
theorem mI:∀(ds:List D) {n:Nat},di n ds=true->aX ds=true/\bM ds<=n
 | [],n,h=>⟨rfl,Nat.zero_le _⟩
 | d::ds,n,h=>by
  simp only [di,Bool.and_eq_true] at h
  obtain⟨a,b⟩:=gq d h.1
  obtain⟨a',b'⟩:=mI ds h.2
  exact⟨by simp [aX,a,a'],by simp only [bM];omega⟩
end
mutual
theorem f6:∀(d e:D) {n m:Nat},bh n d=true->bh m e=true->(aA d e=true ↔ d=e)
 | .non,e,n,m,h,k=>by cases e<;>simp_all [bh,aA]
 | .int _,e,n,m,h,k=>by cases e<;>simp_all [bh,aA]
 | .str _,e,n,m,h,k=>by cases e<;>simp_all [bh,aA]
 | .tup xs,e,n+1,m,h,k=>by
  cases e with
  | tup ys =>
   cases m with
   | zero=>simp [bh] at k
   | succ m =>
    simp only [bh] at h k
    simp only [aA,D.tup.injEq]
    exact pF xs ys h k
  | _=>simp_all [bh,aA]
 | .tup xs,e,0,m,h,k=>by simp [bh] at h
 | .bl _,e,n,m,h,k=>by simp [bh] at h
 | .lst _,e,n,m,h,k=>by simp [bh] at h
 | .edc,e,n,m,h,k=>by simp [bh] at h
 | .ref _,e,n,m,h,k=>by simp [bh] at h
 | .aQ _,e,n,m,h,k=>by simp [bh] at h
 | .fn _,e,n,m,h,k=>by simp [bh] at h
theorem pF:∀(ds es:List D) {n m:Nat},di n ds=true->di m es=true->(cv ds es=true ↔ ds=es)
 | [],es,n,m,h,k=>by cases es<;>simp [cv]
 | d::ds,[],n,m,h,k=>by simp [cv]
 | d::ds,e::es,n,m,h,k=>by
  simp only [di,Bool.and_eq_true] at h k
  simp only [cv,Bool.and_eq_true,List.cons.injEq,f6 d e h.1 k.1,pF ds es h.2 k.2]
end
end DK
namespace L3
def bD:List D->D->Option D
 | k::v::r,key=>if aA k key=true then some v else bD r key
 | _,_=>none
def bR:List D->D->D->List D
 | k::v::r,key,val=>if aA k key=true then k::val::r else k::v::bR r key val
 | _,key,val=>[key,val]
def tq:List D->D->Nat->Bool
 | k::_::_,key,0=>aA k key
 | _::_::r,key,i+1=>tq r key i
 | _,_,_=>false
end L3
namespace DK
open PySem PySem.Spec PyProof.Rows L2 L3 SeqAt
inductive Ent (K:KW)(H:Hp)(ι:Ix):List D->List DictEntry->Prop
 | nil:Ent K H ι [] []
 | cons {k v:D} {kv vv:V} {r:List D} {e:DictEntry} {es:List DictEntry}:bh 6 k=true->e.hash=hD K.w k->Rel K H ι k kv->RelV kv e.key->Rel K H ι v vv->RelV vv e.val->Ent K H ι r es->Ent K H ι (k::v::r) (e::es)
theorem Ent.of {K H ι}:∀{es:List DictEntry} {xs:List D} {vs:List V},Vals vs (fR es)->gv K.w xs es->ag K H ι xs vs->Ent K H ι xs es
 | [],xs,vs,rv,h,r=>by cases h;exact .nil
 | e::es,xs,vs,rv,h,r=>by
  cases h with
  | cons h1 h2 h3 =>
   simp only [ag] at r
   obtain⟨a,ar,rfl,ha,b,br,rfl,hb,hr⟩:=r
   cases rv with
   | cons r1 rv=>cases rv with
    | cons r2 rv=>exact .cons h1 h2 ha r1 hb r2 (Ent.of rv h3 hr)
theorem Ent.out {K H ι}:∀{es:List DictEntry} {xs:List D},Ent K H ι xs es->gv K.w xs es /\ ∃vs,Vals vs (fR es)/\ag K H ι xs vs
 | [],xs,h=>by cases h;exact⟨.nil,[],.nil,by simp [ag]⟩
 | e::es,xs,h=>by
  cases h with
  | @cons k v kv vv r _ _ h1 h2 h3 h4 h5 h6 h7 =>
   obtain⟨a,vs,b,c⟩:=h7.out
   refine⟨.cons h1 h2 a,kv::vv::vs,.cons h4 (.cons h6 b),?_⟩
   simp only [ag]
   exact⟨kv,_,rfl,h3,vv,_,rfl,h5,c⟩
theorem Ent.at {K H ι}:∀{es:List DictEntry} {xs:List D} {i:Nat} {e:DictEntry},Ent K H ι xs es->es[i]? = some e->∃k kv,bh 6 k=true/\(aO xs)[i]? = some k/\e.hash=hD K.w k/\Rel K H ι k kv/\RelV kv e.key /\ ∀key,tq xs key i=aA k key
 | [],xs,i,e,h,q=>by simp at q
 | e0::es,xs,i,e,h,q=>by
  cases h with
  | cons h1 h2 h3 h4 h5 h6 h7 =>
   cases i with
   | zero=>simp at q;subst q;exact⟨_,_,h1,rfl,h2,h3,h4,fun _=>rfl⟩
   | succ i =>
    obtain⟨k,kv,a,b,c,d,e',f⟩:=h7.at (i:=i) (by simpa using q)
    exact⟨k,kv,a,by simpa [aO] using b,c,d,e',fun key=>f key⟩
theorem Ent.len {K H ι}:∀{es:List DictEntry} {xs:List D},Ent K H ι xs es->(aO xs).length=es.length
 | [],xs,h=>by cases h;rfl
 | e::es,xs,h=>by
  cases h with
  | cons h1 h2 h3 h4 h5 h6 h7=>simp [aO,h7.len]
theorem Ent.none_ {K H ι}:∀{es:List DictEntry} {xs:List D} {key:D},Ent K H ι xs es->(∀i,i<es.length->tq xs key i=false)->bD xs key=none /\ ∀v,bR xs key v=xs ++ [key,v]
 | [],xs,key,h,q=>by cases h;exact⟨rfl,fun _=>rfl⟩
 | e::es,xs,key,h,q=>by
  cases h with
  | cons h1 h2 h3 h4 h5 h6 h7 =>
   have q0:=q 0 (by simp)
   simp only [tq] at q0
   obtain⟨a,b⟩:=h7.none_ (key:=key) fun i hi=>by have:=q (i+1) (by simpa using hi);simpa [tq] using this
   exact⟨by simp [bD,q0,a],fun v=>by simp [bR,q0,b]⟩
theorem Ent.m7 {K H ι}{key:D}:∀{es:List DictEntry} {xs:List D} {i:Nat},Ent K H ι xs es->i<es.length->tq xs key i=true->(∀j,j<es.length->tq xs key j=true->j=i) ->
  ∃e v vv,es[i]? = some e/\bD xs key=some v/\Rel K H ι v vv/\RelV vv e.val/\aO (bR xs key v)=aO xs /\
   ∀(w:D) (wv:V) (u:Value),Rel K H ι w wv->RelV wv u->Ent K H ι (bR xs key w) (es.modify i fun e=>{ e with val:=u })/\aO (bR xs key w)=aO xs
 | [],xs,i,h,hi,q,un=>by simp at hi
 | e0::es,xs,i,h,hi,q,un=>by
  cases h with
  | @cons k v kv vv r _ _ h1 h2 h3 h4 h5 h6 h7 =>
   cases i with
   | zero =>
    simp only [tq] at q
    refine⟨e0,v,vv,rfl,by simp [bD,q],h5,h6,by simp [bR,q,aO],fun w wv u rw_ ru=>⟨?_,by simp [bR,q,aO]⟩⟩
    simp only [bR,q,if_true,List.modify_zero_cons]
    exact .cons h1 h2 h3 h4 rw_ ru h7
   | succ i =>
    have q0:aA k key=false:=by
     cases hk:aA k key with
     | false=>rfl
     | true=>exact absurd (un 0 (by simp) (by simpa [tq] using hk)) (by omega)
    obtain⟨e,v',vv',a,b,c,d,f,g⟩:=h7.m7 (i:=i) (by simpa using hi) (by simpa [tq] using q) fun j hj z=>by
     have:=un (j+1) (by simpa using hj) (by simpa [tq] using z)
     omega
    refine⟨e,v',vv',by simpa using a,by simp [bD,q0,b],c,d,by simp [bR,q0,aO,f],fun w wv u rw_ ru=>?_⟩
    obtain⟨g1,g2⟩:=g w wv u rw_ ru
    simp only [bR,q0,Bool.false_eq_true,if_false,List.modify_succ_cons]
    exact⟨.cons h1 h2 h3 h4 h5 h6 g1,by simp [aO,g2]⟩
theorem Ent.push {K H ι}{k v:D}{kv vv:V}{e:DictEntry}(h1:bh 6 k=true)(h2:e.hash=hD K.w k)(h3:Rel K H ι k kv)(h4:RelV kv e.key)(h5:Rel K H ι v vv)(h6:RelV vv e.val) :
  ∀{es:List DictEntry} {xs:List D},Ent K H ι xs es->Ent K H ι (xs ++ [k,v]) (es ++ [e])/\aO (xs ++ [k,v])=aO xs ++ [k]
 | [],xs,h=>by cases h;exact⟨.cons h1 h2 h3 h4 h5 h6 .nil,rfl⟩
 | e0::es,xs,h=>by
  cases h with
  | cons a1 a2 a3 a4 a5 a6 a7 =>
   obtain⟨b1,b2⟩:=Ent.push h1 h2 h3 h4 h5 h6 a7
   exact⟨.cons a1 a2 a3 a4 a5 a6 b1,by simp [aO,b2]⟩
section
variable {X:Cx}{pins:List (Addr×Obj)}{σ:L2.St}{H:Hp}{ι:Ix}{s:Shared}
theorem tL (I:Inv X pins σ H s){A:Around}{d e:D}{x y:V}{u v:Value}(fd:flat d=true)(fe:flat e=true)(rd:Rel X.kw H ι d x)(re:Rel X.kw H ι e y)(ru:RelV x u)(rv:RelV y v)(hu:A.units+dep d<cLine):EqAt A s u v (aA d e):=by
 refine ko (nH I d e (A:=A) fd fe rd re ru rv hu) (fun euv=>?_) (fun b t ef=>Rel.pU rd (by rw [ef] at ru;exact ru))
 subst euv
 have exy:=ru.inj rv
 subst exy
 have ede:=Rel.inj I d e fd fe rd re
 subst ede
 exact eh d fd
theorem ig (I:Inv X pins σ H s){A:Around}(hu:A.units+8<cLine){xs:List D}{es:List DictEntry}(en:Ent X.kw H ι xs es)(nd:(aO xs).Nodup){key:D}{x:V}{u:Value}(hk:bh 6 key=true)(r:Rel X.kw H ι key x)(ru:RelV x u) :
  wQ A s u (hD X.w key) es.toArray (tq xs key) where
 eq:=fun i e he hh=>by
  obtain⟨k,kv,a,b,c,d,f,g⟩:=en.at (i:=i) (by simpa using he)
  rw [g key]
  obtain⟨f1,f2⟩:=gq k a
  exact tL I f1 (gq key hk).1 d r f ru (by omega)
 hs:=fun i e he ht=>by
  obtain⟨k,kv,a,b,c,d,f,g⟩:=en.at (i:=i) (by simpa using he)
  rw [g key] at ht
  rw [c,(f6 k key a hk).mp ht]
 qk:=lP key I hk (by omega) r ru
 qe:=fun e he=>by
  obtain⟨i,hi⟩:=List.mem_iff_getElem?.mp (by simpa using he)
  obtain⟨k,kv,a,b,c,d,f,g⟩:=en.at hi
  exact lP k I a (by omega) d f
 rf:=fun e he ek=>by
  obtain⟨i,hi⟩:=List.mem_iff_getElem?.mp (by simpa using he)
  obtain⟨k,kv,a,b,c,d,f,g⟩:=en.at hi
  rw [ek] at f
  have:=f.inj ru
  subst this
  rw [c,Rel.inj I k key (gq k a).1 (gq key hk).1 d r]
 un:=fun i j hi hj ti tj=>by
  obtain⟨e,he⟩:∃e,es[i]? = some e:=⟨_,List.getElem?_eq_getElem (by simpa using hi)⟩
  obtain⟨e',he'⟩:∃e,es[j]? = some e:=⟨_,List.getElem?_eq_getElem (by simpa using hj)⟩
  obtain⟨k,kv,a,b,c,d,f,g⟩:=en.at he
  obtain⟨k',kv',a',b',c',d',f',g'⟩:=en.at he'
  rw [g key] at ti
  rw [g' key] at tj
  rw [(f6 k key a hk).mp ti] at b
  rw [(f6 k' key a' hk).mp tj] at b'
  exact(List.getElem?_inj (List.getElem?_eq_some_iff.mp b).1 nd).mp (b.trans b'.symm)
 st:=fun y tk e0 i e he hx=>by
  subst e0
  obtain⟨k,kv,a,b,c,d,f,g⟩:=en.at (i:=i) (by simpa using he)
  rw [g key]
  have kx:key = .str y:=by
   cases key with
   | str z=>simp only [Rel] at r;subst r;obtain⟨t,q⟩:=ru;cases q;rfl
   | non=>simp only [Rel] at r;subst r;cases ru
   | int z=>simp only [Rel] at r;subst r;obtain⟨t,q⟩:=ru;cases q
   | tup z=>simp only [Rel] at r;obtain⟨_,_,rfl,_⟩:=r;cases ru
   | _=>simp [bh] at hk
  subst kx
  cases k with
  | str z =>
   simp only [Rel] at d;subst d;obtain⟨t,q⟩:=f
   rw [q]
   simp only [Value.isStr,aA]
  | non=>simp only [Rel] at d;subst d;rw [f] at hx;cases hx
  | int z=>simp only [Rel] at d;subst d;obtain⟨t,q⟩:=f;rw [q] at hx;cases hx
  | tup z=>simp only [Rel] at d;obtain⟨_,_,rfl,_⟩:=d;rw [show e.key=_ from f] at hx;cases hx
  | _=>simp [bh] at a
end
section
variable {X:Cx}{pins:List (Addr×Obj)}{σ:L2.St}{H:Hp}{ι:Ix}{s:Shared}{A:Around}{E:Value->Shared->Prop}{a:Addr}{xs:List D}{es:List DictEntry}{c:Nat}{key:D}{x:V}{u:Value}
theorem fY (I:Inv X pins σ H s)(hH:H a=some (dO a es c)):s.heap.get? a=some { cls:=.type "dict",data:=.dict es.toArray (es.length-c) } :=
 (show cD X.prog X.w H s.heap a (dO a es c) from I.hok a _ hH).1
theorem qQ (I:Inv X pins σ H s)(hH:H a=some (dO a es c)):∃ep,s.heap.get? a=some { cls:=.type "dict",data:=.dict es.toArray ep }:=⟨_,fY I hH⟩
theorem qA (I:Inv X pins σ H s)(hH:H a=some (dO a es c)):s.TypeIs (.ref a) "dict":=let⟨_,h⟩:=qQ I hH;⟨_,h,rfl⟩
theorem sE (I:Inv X pins σ H s)(hu:A.units+8<cLine)(hH:H a=some (dO a es c))(en:Ent X.kw H ι xs es)(nd:(aO xs).Nodup)(hk:bh 6 key=true)(r:Rel X.kw H ι key x)(ru:RelV x u){Q:Option Value->Shared->Prop}
   (hn:bD xs key=none->∀tk,Q none { s with toks:=tk }) (hs:∀v,bD xs key=some v->∀tk vv z,Rel X.kw H ι v vv->RelV vv z->Q (some z) { s with toks:=tk }):wpAny (model X.prog X.w) A (dictGet a u) Q E s:=by
 obtain⟨ep,ho⟩:=qQ I hH
 unfold dictGet
 refine wpAny_holding (wpAny_bind (ki key I hk r ru (by omega) fun tk=>wpAny_bind (lx (s:={ s with toks:=tk }) ho rfl (ig (I.tok tk) hu en nd hk r ru) (fun z=>?_) (fun i hi ht=>?_))))
 . exact wpAny_pure (hn (en.none_ fun i hi=>z i (by simpa using hi)).1 tk)
 . have K:=ig (I.tok tk) hu en nd hk r ru (A:=A)
   obtain⟨e,v,vv,h1,h2,h3,h4,_⟩:=en.m7 (key:=key) (by simpa using hi) ht fun j hj z=>(K.un i j hi (by simpa using hj) ht z).symm
   refine wpAny_bind (wpAny_dictEntries (s:={ s with toks:=tk }) ho rfl ?_)
   have:es.toArray[i]? = some e:=by simpa using h1
   rw [this]
   exact wpAny_pure (hs v h2 tk vv _ h3 h4)
theorem sO (I:Inv X pins σ H s)(hH:H a=some (dO a es c))(en:Ent X.kw H ι xs es)(nd:(aO xs).Nodup)(hk:bh 6 key=true)(r:Rel X.kw H ι key x)(ru:RelV x u){v:D}(hv:bD xs key=some v) :
   ∃vv z,Rel X.kw H ι v vv/\RelV vv z /\ ∀{A:Around} {E:Value->Shared->Prop} {Q:Option Value->Shared->Prop},A.units+8<cLine->(∀tk,Q (some z) { s with toks:=tk })->wpAny (model X.prog X.w) A (dictGet a u) Q E s:=by
 obtain⟨ep,ho⟩:=qQ I hH
 have hex:∃i,i<es.length/\tq xs key i=true:=by
   refine Classical.byContradiction fun no=>?_
   have:=(en.none_ (key:=key) fun i hi=>by
    cases h:tq xs key i with
    | false=>rfl
    | true=>exact absurd ⟨i,hi,h⟩ no).1
   rw [hv] at this;cases this
 obtain⟨i,hi,ht⟩:=hex
 have un:∀j,j<es.length->tq xs key j=true->j=i:=fun j hj z=>by
   obtain⟨k,kv,a1,b1,_,_,_,g⟩:=en.at (List.getElem?_eq_getElem hi)
   obtain⟨k',kv',a2,b2,_,_,_,g'⟩:=en.at (List.getElem?_eq_getElem hj)
   rw [g] at ht
   rw [g'] at z
   rw [(f6 k key a1 hk).mp ht] at b1
   rw [(f6 k' key a2 hk).mp z] at b2
   exact(List.getElem?_inj (List.getElem?_eq_some_iff.mp b2).1 nd).mp (b2.trans b1.symm)
 obtain⟨e,v',vv,h1,h2,h3,h4,_⟩:=en.m7 (key:=key) hi ht un
 rw [hv] at h2;cases h2
 refine⟨vv,e.val,h3,h4,fun {A E Q} hu q=>?_⟩
 unfold dictGet
 refine wpAny_holding (wpAny_bind (ki key I hk r ru (by omega) fun tk=>wpAny_bind (lx (s:={ s with toks:=tk }) ho rfl (ig (I.tok tk) hu en nd hk r ru) (fun z=>?_) (fun j hj tj=>?_))))
 . have:=z i (by simpa using hi);rw [ht] at this;cases this
 . have:=un j (by simpa using hj) tj
   subst this
   refine wpAny_bind (wpAny_dictEntries (s:={ s with toks:=tk }) ho rfl ?_)
   have:es.toArray[j]? = some e:=by simpa using h1
   rw [this]
   exact wpAny_pure (q tk)
theorem mh (I:Inv X pins σ H s)(hu:A.units+8<cLine)(hH:H a=some (dO a es c))(hcl:c<=es.length)(hz:es.length<=sizeLine)(en:Ent X.kw H ι xs es)(nd:(aO xs).Nodup)(hk:bh 6 key=true)(r:Rel X.kw H ι key x)(ru:RelV x u){v:D}{vv:V}{z:Value}(rv:Rel X.kw H ι v vv)(rz:RelV vv z){Q:Unit->Shared->Prop}
   (h:∀tk h' es',Ent X.kw H ι (bR xs key v) es'->(aO (bR xs key v)).Nodup->es'.length<=es.length+1->c<=es'.length->h'.get? a=some { cls:=.type "dict",data:=.dict es'.toArray (es'.length-c) }->Heap.SameBut a s.heap h'->Q () { s with heap:=h',toks:=tk }) :
   wpAny (model X.prog X.w) A (dictSet a u z) Q E s:=by
 have ho:=fY I hH
 unfold dictSet
 refine wpAny_holding (wpAny_bind (ki key I hk r ru (by omega) fun tk=>?_))
 unfold dictSetHashed
 refine wpAny_holding (wpAny_bind (lx (s:={ s with toks:=tk }) ho rfl (ig (I.tok tk) hu en nd hk r ru) (fun y=>?_) (fun i hi ht=>?_)))
 . obtain⟨_,ep2⟩:=en.none_ (key:=key) fun i hi=>y i (by simpa using hi)
   obtain⟨e1,e2⟩:=Ent.push (e:=⟨hD X.w key,u,z⟩) hk rfl r ru rv rz en
   refine wpAny_bind (wpAny_rule (wpAny_updateDictKeys (hz:=by simpa using hz) (s:={ s with toks:=tk }) ho rfl ?_))
   refine h tk _ (es ++ [⟨hD X.w key,u,z⟩]) (by rw [ep2];exact e1) ?_ (by simp) (by simp;omega) ?_ (Heap.SameBut.update ..)
   . rw [ep2,e2,List.nodup_append]
     refine⟨nd,by simp,fun k hk1 k' hk2=>?_⟩
     simp at hk2;subst hk2
     rintro rfl
     obtain⟨i,hi,e⟩:=List.mem_iff_getElem.mp hk1
     have hil:i<es.length:=by rw [<- en.len];exact hi
     obtain⟨k,kv,a1,b1,_,_,_,g⟩:=en.at (List.getElem?_eq_getElem hil)
     rw [List.getElem?_eq_getElem hi,e] at b1
     cases b1
     have:=y i (by simpa using hil)
     rw [g,(f6 _ _ hk hk).mpr rfl] at this
     cases this
   . have q:=Heap.get?_update_self (h:=s.heap) (Obj.mapDictKeys (·.push ⟨hD X.w key,u,z⟩)) ho rfl
     rw [q];simp [Obj.mapDictKeys];omega
 . have K:=ig (I.tok tk) hu en nd hk r ru (A:=A)
   obtain⟨e,v0,vv0,h1,h2,h3,h4,_,h5⟩:=en.m7 (key:=key) (by simpa using hi) ht fun j hj y=>(K.un i j hi (by simpa using hj) ht y).symm
   obtain⟨h6,h7⟩:=h5 v vv z rv rz
   refine wpAny_bind (wpAny_rule (wpAny_bind (wpAny_updateDict (s:={ s with toks:=tk }) ho rfl ?_)))
   refine wpAny_point ?_
   refine h tk _ (es.modify i fun e=>{ e with val:=z }) h6 (by rw [h7];exact nd) (by simp) (by simpa using hcl) ?_ (Heap.SameBut.update ..)
   have q:=Heap.get?_update_self (h:=s.heap) (Obj.mapDict (·.modify i fun e=>{ e with val:=z })) ho rfl
   rw [q];simp [Obj.mapDict]
end
end DK
namespace L3
open PySem PySem.Spec PyProof.Rows L2 SeqAt DK
def aw (d1 d2:D)(g:G):Option (D×G):=match d1 with
 | .aQ n=>(g[n]?).bind fun xs=>if bh 6 d2=true then(bD xs d2).map fun d=>(d,g) else none
 | d1=>md d1 d2 g
section
variable {X:Cx}
theorem yj (hu:X.A.units+64<cLine):je X (bU X.kw aw):=by
 intro value slice pins s σ H x y v u Q I rx ry q hs
 obtain⟨ι,g,d1,d2,d,g',G0,r1,r2,q,p⟩:=q
 cases d1 with
 | aQ n =>
  simp only [aw] at q
  obtain⟨xs,hx,q⟩:=bind_some q
  split at q
  . rename_i hk
    simp only [Rel] at r1
    obtain⟨a,rfl,ha⟩:=r1
    cases rx
    obtain⟨es,vs,c,hH,hkd,hcl,rv,hh,nd,sy,sz,rl⟩:=G0.nz hx ha
    have en:=Ent.of rv hh rl
    cases hv:bD xs d2 with
    | none=>rw [hv] at q;cases q
    | some dv =>
     rw [hv] at q;cases q
     obtain⟨vv,z,h1,h2,h3⟩:=sO I hH en nd hk r2 ry hv
     have hT:=qA I hH
     refine subscriptTail_builtinR (x:=z) hT slot_dict_getitem.lookup ?_ hs
     unfold getItem
     refine wpAny_holding (wpAny_bind (wpAny_sequenceKey hT (by decide) ?_))
     refine wpAny_bind (wpAny_callSpecial?_slot (name:=Str.ofString "__getitem__") hT slot_dict_getitem (wpAny_call_entry slot_dict_getitem hT entry_dict_getitem ?_ (args_dict_getitem _ _)))
     show wpAny _ _ (dictGet a u >>= _) _ _ s
     refine wpAny_bind (h3 (by rw [in1_units];omega) fun tk=>?_)
     exact wpAny_pure ⟨z,rfl,wpAny_pure ⟨rfl,vv,H,I.tok tk,h2,p H ι vv Ext.refl G0 h1⟩⟩
  . cases q
 | _=>exact zy value slice pins s σ H x y v u Q I rx ry ⟨ι,g,_,d2,d,g',G0,r1,r2,q,p⟩ hs
theorem Bp {a b:Expr}{fa fb:FE}{pos:Pos}(hu:X.A.units+64<cLine)(ha:DE X a fa)(hb:DE X b fb)(hs:lI b:=by exact fun _ _=>rfl):DE X (.Subscript a b pos) (ao aw fa fb):=.of (
 PE.imp (EO (yj hu) ha.un hb.un hs) fun σ H Q h=>kC h)
end
def Di (d1:D)(xs:List D):Option Bool:=if(flat d1&&aX xs&&decide (bM xs<=50))=true then some (xs.any fun y=>aA y d1) else none
def kU (d1 d2:D)(g:G):Option Bool:=match d2 with
 | .aQ n=>(g[n]?).bind fun xs=>if bh 6 d1=true then some (bD xs d1).isSome else none
 | d2=>(cf d2 g).bind (Di d1)
def ik (d1 d2:D)(g:G):Option (D×G):=(kU d1 d2 g).map fun b=>(.bl b,g)
def hZ (d1 d2:D)(g:G):Option (D×G):=(kU d1 d2 g).map fun b=>(.bl (!b),g)
theorem ui {d1 d2:D}{g:G}{b:Bool}(h:kU d1 d2 g=some b):(∃n,d2 = .aQ n) \/ ∃xs,cf d2 g=some xs/\Di d1 xs=some b:=by
 cases d2 with
 | aQ n=>exact .inl ⟨n,rfl⟩
 | _=>simp only [kU] at h;exact .inr (bind_some h)
section
variable {X:Cx}
theorem mr:∀{xs:List D} {i:Nat} {d:D},aX xs=true->xs[i]? = some d->flat d=true/\dep d<=bM xs
 | [],i,d,h,e=>by simp at e
 | x::xs,0,d,h,e=>by
  simp at e;subst e
  simp only [aX,Bool.and_eq_true] at h
  exact⟨h.1,by simp only [bM];omega⟩
 | x::xs,i+1,d,h,e=>by
  simp only [aX,Bool.and_eq_true] at h
  obtain⟨a,b⟩:=mr (i:=i) h.2 (by simpa using e)
  exact⟨a,by simp only [bM];omega⟩
theorem oY {pins:List (Addr×Obj)}{σ:L2.St}{H:Hp}{s:Shared}{ι:Ix}(I:Inv X pins σ H s){A:Around}{key:D}{x:V}{u:Value}(fk:flat key=true)(r:Rel X.kw H ι key x)(ru:RelV x u){n:Nat}(hu:A.units+n<cLine) :
   ∀{xs:List D} {vs:List V} {us:List Value},aX xs=true->bM xs<=n->ag X.kw H ι xs vs->Vals vs us->∃e:Value->Bool,(∀y,y∈us->EqAt A s y u (e y))/\us.any e=xs.any (fun y=>aA y key):=by
 classical
 intro xs vs us fx hn rl rv
 refine⟨fun y=>decide (∃d v,Rel X.kw H ι d v/\RelV v y/\flat d=true/\aA d key=true),fun y hy=>?_,?_⟩
 . obtain⟨i,hi,e⟩:=List.mem_iff_getElem.mp hy
   have hiv:i<vs.length:=by rw [rv.length];exact hi
   have hix:i<xs.length:=by rw [rl.length];exact hiv
   obtain⟨v,h1,h2⟩:=rl.get (List.getElem?_eq_getElem hix)
   obtain⟨z,h3,h4⟩:=rv.get h1
   rw [List.getElem?_eq_getElem hi,e] at h3
   cases h3
   obtain⟨f1,f2⟩:=mr fx (List.getElem?_eq_getElem hix)
   have key_:=tL I f1 fk h2 r h4 ru (A:=A) (by omega)
   have:decide (∃d v,Rel X.kw H ι d v/\RelV v y/\flat d=true/\aA d key=true)=aA xs[i] key:=by
    cases hq:aA xs[i] key with
    | true=>exact decide_eq_true ⟨_,_,h2,h4,f1,hq⟩
    | false =>
     refine decide_eq_false ?_
     rintro⟨d,v',a,b,c,e'⟩
     have:=b.inj h4
     subst this
     rw [Rel.inj I d _ c f1 a h2,hq] at e'
     cases e'
   show EqAt A s y u (decide _);rw [this];exact key_
 . induction xs generalizing vs us with
   | nil=>simp only [ag] at rl;subst rl;cases rv;rfl
   | cons d ds ih =>
    simp only [ag] at rl
    obtain⟨v,vr,rfl,h2,hr⟩:=rl
    cases rv with
    | cons r0 rr =>
     simp only [aX,Bool.and_eq_true] at fx
     simp only [bM] at hn
     rw [List.any_cons,List.any_cons,ih fx.2 (by omega) hr rr]
     congr 1
     cases hq:aA d key with
     | true=>exact decide_eq_true ⟨_,_,h2,r0,fx.1,hq⟩
     | false =>
      refine decide_eq_false ?_
      rintro⟨d',v',a,b,c,e'⟩
      have:=b.inj r0
      subst this
      rw [Rel.inj I d' _ c fx.1 a h2,hq] at e'
      cases e'
theorem p4 (neg:Bool)(hu:X.A.units+64<cLine):aT X (compareOp (if neg then .NotIn else .In)) (bU X.kw fun d1 d2 g=>(kU d1 d2 g).map fun b=>(.bl (if neg then !b else b),g)):=by
 intro pins s σ H x y v u Q I rx ry q
 obtain⟨ι,g,d1,d2,d,g',G0,r1,r2,q,p⟩:=q
 obtain⟨b,hb,q⟩:=Option.map_eq_some_iff.mp q
 cases q
 have fin:∀tk,EP X pins σ Q (.bool (if neg then !b else b)) { s with toks:=tk }:=fun tk=>⟨.bl _,H,I.tok tk,rfl,p H ι _ Ext.refl G0 (by simp [Rel])⟩
 rcases ui hb with⟨n,rfl⟩ | ⟨xs,hx,hb⟩
 . simp only [kU] at hb
   obtain⟨xs,hx,hb⟩:=bind_some hb
   split at hb
   . rename_i hk
     cases hb
     simp only [Rel] at r2
     obtain⟨a,rfl,ha⟩:=r2
     cases ry
     obtain⟨es,vs,c,hH,hkd,hcl,rv,hh,nd,sy,sz,rl⟩:=G0.nz hx ha
     have en:=Ent.of rv hh rl
     have hT:=qA I hH
     have core:∀{Q':Bool->Shared->Prop},(∀tk,Q' (bD xs d1).isSome { s with toks:=tk })->wpAny (model X.prog X.w) X.A (contains (.ref a) v) Q' X.xe s:=fun {Q'} fin=>by
       unfold contains
       refine wpAny_holding (wpAny_bind (wpAny_specialOf hT slot_dict_contains.lookup ?_))
       refine wpAny_ite_split (fun z=>by rw [beq_builtin_none] at z;cases z) (fun _=>?_)
       refine wpAny_bind (wpAny_callSpecialUnlessNone?_slot (name:=Str.ofString "__contains__") hT slot_dict_contains (wpAny_call_entry slot_dict_contains hT entry_dict_contains ?_ (args_dict_contains _ _)))
       show wpAny _ _ (dictGet a v >>= _) _ _ s
       refine wpAny_bind (sE I (by rw [in1_units];omega) hH en nd hk r1 rx (fun hn tk=>?_) (fun w hs tk vv z _ _=>?_))
       . rw [hn] at fin
         show wpAny _ _ (Builtin.Dict.pendingKey? a v >>= _) _ _ _
         exact wpAny_bind (wpAny_pendingKey_other sy (wpAny_pure ⟨_,rfl,wpAny_truthy_bool (fin tk)⟩))
       . rw [hs] at fin
         show wpAny _ _ (ret (.bool true)) _ _ _
         exact wpAny_pure ⟨_,rfl,wpAny_truthy_bool (fin tk)⟩
     cases neg with
     | false=>exact(show wpAny _ _ (do return Value.bool (<- contains (.ref a) v)) _ _ s from wpAny_bind (core fun tk=>wpAny_pure (fin tk)))
     | true=>exact(show wpAny _ _ (do return Value.bool (!(<- contains (.ref a) v))) _ _ s from wpAny_bind (core fun tk=>wpAny_pure (fin tk)))
   . cases hb
 . unfold Di at hb
   split at hb
   . rename_i z
     simp only [Bool.and_eq_true,decide_eq_true_eq] at z
     cases hb
     obtain⟨a,vs,rfl,hq,hr⟩:=gF G0 r2 hx
     cases ry
     rcases hq with hq | hq
     . obtain⟨its,rits,ht,_⟩:=I.list hq
       obtain⟨e,h1,h2⟩:=oY I (A:=X.A.in1) z.1.1 r1 rx (n:=50) (by rw [in1_units];omega) z.1.2 z.2 hr rits
       have fin:=fin s.toks
       rw [<- h2] at fin
       cases neg with
       | false=>exact in_listAt e ht.isList (fun y hy=>h1 y (by simpa using hy)) (by simpa using fin)
       | true=>exact notIn_listAt e ht.isList (fun y hy=>h1 y (by simpa using hy)) (by simpa using fin)
     . obtain⟨its,rits,ht,_⟩:=I.tuple hq
       obtain⟨e,h1,h2⟩:=oY I (A:=X.A.in1) z.1.1 r1 rx (n:=50) (by rw [in1_units];omega) z.1.2 z.2 hr rits
       have fin:=fin s.toks
       rw [<- h2] at fin
       cases neg with
       | false=>exact in_tupleAt e ht (fun y hy=>h1 y (by simpa using hy)) (by simpa using fin)
       | true=>exact notIn_tupleAt e ht (fun y hy=>h1 y (by simpa using hy)) (by simpa using fin)
   . cases hb
theorem Br (hu:X.A.units+64<cLine):aT X (compareOp .In) (bU X.kw ik):=p4 false hu
theorem sH (hu:X.A.units+64<cLine):aT X (compareOp .NotIn) (bU X.kw hZ):=p4 true hu
end
section
variable {X:Cx}{pins:List (Addr×Obj)}{σ:L2.St}{H:Hp}{ι:Ix}{s:Shared}{g:G}{a:Addr}{n:Nat}{xs:List D}{es:List DictEntry}{c:Nat}
theorem og (I:Inv X pins σ H s)(hH:H a=some (dO a es c)){es':List DictEntry}{h':Heap}{tk:Nat}(hg:h'.get? a=some { cls:=.type "dict",data:=.dict es'.toArray (es'.length-c) })(sb:Heap.SameBut a s.heap h') :
  Inv X pins σ (upd H a (dO a es' c)) { s with heap:=h',toks:=tk }:=by
 refine I.write (x:=a) (e:=a) (o:=dO a es' c) (t':=tk) (by rw [hH];exact True.intro) (.inl rfl) (fun b u hb q=>?_) ⟨_,hg⟩ ⟨hg,⟨_,hg⟩,fun h1 h2 q k=>k _ q⟩
 rw [sb.2 b hb];exact q
theorem oa (G0:au X.kw H ι g)(ha:cW ι n a true)(hkd:ι.kd n=c+1)(hH:H a=some (dO a es c)){xs':List D}{es':List DictEntry}(en:Ent X.kw H ι xs' es')(nd:(aO xs').Nodup)(sy:(a == sysModules)=false)(hcl:c<=es'.length)(sz:es'.length<=sizeLine) :
  au X.kw (upd H a (dO a es' c)) ι (g.set n xs'):=by
 obtain⟨h1,vs,h2,h3⟩:=en.out
 exact G0.Dg ha hH (by rw [hkd];exact .d c es' vs hcl h2 h1 nd sy sz) h3
end
def nS (xs:List D):Bool:=aD (xs.length / 2+1)
def gP (o i v:D)(g:G):Option G:=match o with
 | .aQ n=>(g[n]?).bind fun xs=>if(bh 6 i&&nS xs)=true then some (g.set n (bR xs i v)) else none
 | o=>putD o i v g
inductive xI (K:KW)(o i v:V)(H:Hp)(Q:Hp->Prop):Prop
 | mk (ι:Ix) (g:G) (d1 d2 d3:D) (g':G) (h0:au K H ι g) (h1:Rel K H ι d1 o) (h2:Rel K H ι d2 i) (h3:Rel K H ι d3 v) (h4:gP d1 d2 d3 g=some g') (h5:∀H' ι',Ext H ι H' ι'->au K H' ι' g'->Q H'):xI K o i v H Q
theorem qd {K H ι}{xs:List D}{es:List DictEntry}(en:Ent K H ι xs es):xs.length=2*es.length:=by
 induction en with
 | nil=>rfl
 | cons _ _ _ _ _ _ _ ih=>simp [ih];omega
section
variable {X:Cx}
theorem zz (hu:X.A.units+64<cLine):wu X (xI X.kw):=by
 intro pins s σ H o i v ov iv u Q I ro ri rv q
 obtain⟨ι,g,d1,d2,d3,g',G0,r1,r2,r3,q,p⟩:=q
 cases d1 with
 | aQ n =>
  simp only [gP] at q
  obtain⟨xs,hx,q⟩:=bind_some q
  split at q
  . rename_i hk
    simp only [Bool.and_eq_true] at hk
    cases q
    simp only [Rel] at r1
    obtain⟨a,rfl,ha⟩:=r1
    cases ro
    obtain⟨es,vs,c,hH,hkd,hcl,rvs,hh,nd,sy,sz,rl⟩:=G0.nz hx ha
    have en:=Ent.of rvs hh rl
    have hT:=qA I hH
    have hz:=aD.le hk.2
    rw [qd en] at hz
    unfold setItem
    refine wpAny_holding (wpAny_bind (wpAny_sequenceKey hT (by decide) ?_))
    refine wpAny_bind (wpAny_callSpecial?_slot (name:=Str.ofString "__setitem__") hT slot_dict_setitem (wpAny_call_entry slot_dict_setitem hT entry_dict_setitem ?_ (args_dict_setitem _ _ _)))
    show wpAny _ _ (Builtin.Dict.notOrdered "__setitem__" ⟨[.ref a,iv,u],[]⟩ >>= _) _ _ s
    refine wpAny_bind (wpAny_notOrdered_dict hT ?_)
    show wpAny _ _ (dictSet a iv u >>= _) _ _ s
    refine wpAny_bind (mh I (by rw [in1_units];omega) hH hcl sz en nd hk.1 r2 ri r3 rv fun tk h' es' e1 e2 e3 e0 e4 e5=>wpAny_pure ⟨.none,rfl,wpAny_pure ?_⟩)
    exact⟨_,og I hH e4 e5,p _ ι (Ext.put ha hH) (oa G0 ha hkd hH e1 e2 sy e0 (by omega))⟩
  . cases q
 | ref n =>
  refine set_list pins s σ H o i v ov iv u Q I ro ri rv ?_
  simp only [gP,putD] at q
  cases d2 with
  | int k =>
    simp only [Rel] at r1 r2
    obtain⟨a,rfl,ha⟩:=r1
    subst r2
    dsimp only at q
    cases hx:g[n]? with
    | none=>rw [hx] at q;cases q
    | some xs =>
     rw [hx] at q
     dsimp only at q
     cases hj:hG xs.length k with
     | none=>rw [hj] at q;cases q
     | some j =>
      rw [hj] at q
      cases q
      obtain⟨vs,hv,hr⟩:=G0.at hx ha
      exact⟨a,vs,k,j,rfl,rfl,hv,by rw [<- hr.length];exact hj,p _ ι (Ext.put ha hv) (G0.put ha hv (ag.set r3 j hr))⟩
  | _=>cases q
 | _=>cases q
def f7 (fo fi:FE):FG:=fun v σ g=>(fo σ g).bind fun r=>(fi σ r.2).bind fun q=>(gP r.1 q.1 v q.2).map fun g'=>(σ,g')
theorem pR {o i:Expr}{fo fi:FE}{pos:Pos}(hu:X.A.units+64<cLine)(ho:DE X o fo)(hi:DE X i fi)
  (ha:∀v,assign (.Subscript o i pos) X.env v=(do
   let ov <- holding [v] (eval o X.env)
   let iv <- holding [v,ov] (eval i X.env)
   standAt pos
   holding [v,ov,iv] (setItem ov iv v)
   release [v,ov,iv] []):=by intro _;rfl):DG X (.Subscript o i pos) (f7 fo fi):=.of (PG.imp (C5 ho.un hi.un (zz hu) ha) fun v σ H Q h=>by
 obtain⟨ι,σd,g,d,σd',g',G0,S0,r,h,p⟩:=h
 obtain⟨⟨d1,g1⟩,h1,h⟩:=bind_some h
 obtain⟨⟨d2,g2⟩,h2,h⟩:=bind_some h
 refine tD.bind G0 S0 h1 fun H1 ι1 v1 e1 G1 S1 r1=>?_
 refine tD.bind G1 S1 h2 fun H2 ι2 v2 e2 G2 S2 r2=>?_
 obtain⟨g3,h3,h⟩:=Option.map_eq_some_iff.mp h
 cases h
 exact⟨ι2,g2,d1,d2,d,g',G2,Rel.ext e2 _ r1,r2,Rel.ext (e1.trans e2) _ r,h3,fun H' ι' e' G'=>p H' ι' σ ((e1.trans e2).trans e') G' (S2.ext e')⟩)
end
inductive Fs (K:KW)(isT:D->Bool)(m:D->List D->G->Option (D×G))(x:V)(xs:List V)(H:Hp)(Q:VK):Prop
 | mk (ι:Ix) (g:G) (d:D) (ds:List D) (d':D) (g':G) (h0:au K H ι g) (h1:Rel K H ι d x) (h2:ag K H ι ds xs) (h3:isT d=true) (h4:m d ds g=some (d',g')) (h5:eF K H ι d' g' Q):Fs K isT m x xs H Q
structure MR (X:Cx)(T:String)(name:Str)(id:String)(isT:D->Bool)(m:D->List D->G->Option (D×G)):Prop where
 pa:PlainAttrs T
 slot:Slot T name id
 ty:typeOf (.builtin id)=pure (.type "method_descriptor")
 is:∀{pins:List (Addr×Obj)} {σ:L2.St} {H:Hp} {s:Shared} {ι:Ix} {g:G} {d:D} {x:V} {v:Value},Inv X pins σ H s->au X.kw H ι g->Rel X.kw H ι d x->RelV x v->isT d=true->s.TypeIs v T /\ ∀a,v = .ref a->∃ob,s.heap.get? a=some ob/\ob.dict=none
 run:Kb X id (Fs X.kw isT m)
def dP (isT:D->Bool)(m:D->List D->G->Option (D×G))(fo:FE)(fr:FA):FE:=fun σ g=>(fo σ g).bind fun r=>if isT r.1=true then(fr σ r.2).bind fun q=>m r.1 q.1 q.2 else none
section
variable {X:Cx}{T:String}{name:Str}{id:String}{isT:D->Bool}{m:D->List D->G->Option (D×G)}{o e:Expr}{es:List Expr}{fo:FE}{fr:FA}{apos cpos:Pos}
theorem Ck (R:MR X T name id isT m)(ho:DE X o fo)(ha:DA X (e::es) fr)(hbase:attributeBase o name X.env (eval o X.env)=eval o X.env:=by rfl)
   (hfew:((backTo cpos (starEach (e::es) X.env)).all (fun x=>!x.1)&&(backToKw cpos (keywordEach [] X.env)).all (fun x=>x.1.isSome)
    && decide ((e::es).length+([]:List Keyword).length+(if([]:List Keyword).isEmpty then 0 else 1)<30))=true:=by rfl)
   (hline:(apos.endLine == cpos.line)=true:=by rfl) (hs:starEach (e::es) X.env=(false,eval e X.env)::starEach es X.env:=by rfl) (hplain:(backTo cpos (starEach es X.env)).any (·.1)=false:=by rfl) :
   DE X (.Call (.Attribute o name apos) (e::es) [] cpos) (dP isT m fo fr):=.of (by
 intro pins s σ H Q I h
 obtain⟨ι,σd,g,d,g',G0,S0,h,p⟩:=h
 obtain⟨⟨d1,g1⟩,h1,h⟩:=bind_some h
 dsimp only at h
 split at h
 . rename_i hT
   obtain⟨⟨ds,g2⟩,h2,h⟩:=bind_some h
   refine wpAny_Call_method_late hbase hfew hline rfl (aI (ho.un pins s σ H (fun x H1=>∃ι1,Ext H ι H1 ι1/\au X.kw H1 ι1 g1/\aS X.kw H1 ι1 σd σ/\Rel X.kw H1 ι1 d1 x) I (tD.bind G0 S0 h1 fun H1 ι1 v e1 G1 S1 r1=>⟨ι1,e1,G1,S1,r1⟩)) fun v s1 ⟨x,H1,I1,rx,ι1,e1,G1,S1,r1⟩=>?_)
   obtain⟨t1,t2⟩:=R.is I1 G1 r1 rx hT
   refine⟨T,id,R.pa,R.slot,R.ty,t1,t2,?_⟩
   have hA:=ha.un cpos pins s1 σ H1 _ I1 (eU.bind G1 S1 h2 fun H2 ι2 vs e2 G2 S2 r2=>(⟨ι2,e2,G2,r2⟩:(fun(vs:List V) (H2:Hp)=>∃ι2,Ext H1 ι1 H2 ι2/\au X.kw H2 ι2 g2/\ag X.kw H2 ι2 ds vs) vs H2))
   rw [hs] at hA ⊢
   refine Calls.callWith_builtin (by show(false||(backTo cpos (starEach es X.env)).any (·.1))=false;rw [hplain]<;>rfl) (Calls.evalArgs_plain ?_)
   refine aI hA fun us s2 ⟨vs,H2,I2,r2,ι2,e2,G2,rs⟩=>?_
   exact R.run pins s2 σ H2 x vs v us Q I2 rx r2 ⟨ι2,g2,d1,ds,d,g',G2,Rel.ext e2 _ r1,rs,hT,h,p.mono (e1.trans e2)⟩
 . cases h)
theorem zK (R:MR X T name id isT m)(ho:DE X o fo)(hbase:attributeBase o name X.env (eval o X.env)=eval o X.env:=by rfl)(hline:(apos.endLine == cpos.line)=true:=by rfl) :
   DE X (.Call (.Attribute o name apos) [] [] cpos) (dP isT m fo aj):=.of (by
 intro pins s σ H Q I h
 obtain⟨ι,σd,g,d,g',G0,S0,h,p⟩:=h
 obtain⟨⟨d1,g1⟩,h1,h⟩:=bind_some h
 dsimp only at h
 split at h
 . rename_i hT
   obtain⟨⟨ds,g2⟩,h2,h⟩:=bind_some h
   cases h2
   refine wpAny_Call_method0_late hbase hline (aI (ho.un pins s σ H (fun x H1=>∃ι1,Ext H ι H1 ι1/\au X.kw H1 ι1 g1/\aS X.kw H1 ι1 σd σ/\Rel X.kw H1 ι1 d1 x) I (tD.bind G0 S0 h1 fun H1 ι1 v e1 G1 S1 r1=>⟨ι1,e1,G1,S1,r1⟩)) fun v s1 ⟨x,H1,I1,rx,ι1,e1,G1,S1,r1⟩=>?_)
   obtain⟨t1,t2⟩:=R.is I1 G1 r1 rx hT
   refine⟨T,id,R.pa,R.slot,R.ty,t1,t2,Calls.callWith_builtin rfl (PySem.evalArgs_none ?_)⟩
   exact R.run pins s1 σ H1 x [] v [] Q I1 rx .nil ⟨ι1,g1,d1,[],d,g',G1,r1,by simp [ag],hT,h,p.mono e1⟩
 . cases h)
end
theorem vals1 {x:V}{us:List Value}(r:Vals [x] us):∃u,us = [u]/\RelV x u:=by
 cases r with
 | cons a b=>cases b;exact⟨_,rfl,a⟩
def ku:FE:=fun _ g=>some (.aQ g.length,g ++ [[]])
section
variable {X:Cx}
theorem zf {pos:Pos}:DE X (.Dict [] [] pos) ku:=.of (by
 intro pins s σ H Q I h
 obtain⟨ι,σd,g,d,g',G0,S0,h,p⟩:=h
 cases h
 have hf:H s.heap.objs.size=none:=I.hok.fresh (Nat.le_refl _)
 have hg:∀h:Heap,(h.push { cls:=.type "dict",data:=.dict #[] }).get? h.objs.size=some { cls:=.type "dict",data:=.dict #[] }:=fun h=>Heap.get?_push_size _ rfl
 refine wpAny_Dict_empty ⟨.ref s.heap.objs.size,upd H s.heap.objs.size (dO s.heap.objs.size [] 0),I.laid (t':=s.toks) (fun b u e=>Heap.get?_push_of_some _ e) (Nat.le_refl _) ?_,rfl,p _ _ _ (Ext.fm (b:=1) hf) (G0.fm hf (.d 0 [] [] (Nat.zero_le _) .nil .nil (by simp [aO]) (beq_eq_false_iff_ne.mpr (Ne.symm (Nat.ne_of_lt (big I)))) (Nat.zero_le _)) (by simp [ag])) ?_⟩
 . exact⟨hg _,⟨_,hg _⟩,fun h1 h2 q k=>k _ q⟩
 . simp only [Rel]
   exact⟨_,rfl,cW.new G0.len⟩)
end
end L3
namespace L3
open PySem PySem.Spec PyProof.Rows L2
def forLR (nn L:Nat)(t:FG)(b:FS):Nat->FS
 | 0,σ,g=>(g[nn]?).bind fun xs=>if xs.length=L then some (.nx,σ,g) else none
 | r+1,σ,g=>(g[nn]?).bind fun xs=>if xs.length=L then(xs[L-(r+1)]?).bind fun d=>(t d σ g).bind fun q=>(b q.1 q.2).bind fun r'=>match r'.1 with
   | .nx=>forLR nn L t b r r'.2.1 r'.2.2
   | .ct=>forLR nn L t b r r'.2.1 r'.2.2
   | .bk=>some (.nx,r'.2.1,r'.2.2)
   | .rt d=>some (.rt d,r'.2.1,r'.2.2)
  else none
section
variable {X:Cx}{tg:Expr}{pos:Pos}
inductive D9 (X:Cx)(t:FG)(b:FS)(nn L:Nat)(H1:Hp)(ι1:Ix)(r:F)(σd':Sg)(g':G)(i:Nat)(σ2:L2.St)(H2:Hp):Prop
 | mk (ι2:Ix) (σd2:Sg) (g2:G) (e2:Ext H1 ι1 H2 ι2) (G2:au X.kw H2 ι2 g2) (S2:aS X.kw H2 ι2 σd2 σ2) (hf:forLR nn L t b (L-i) σd2 g2=some (r,σd',g')):D9 X t b nn L H1 ι1 r σd' g' i σ2 H2
end
end L3
namespace L3
open PySem PySem.Spec PyProof.Rows L2 SeqAt DK
def oz:List (FE×FE)->Sg->G->Option (List (D×D)×G)
 | [],_,g=>some ([],g)
 | p::r,σ,g=>(p.1 σ g).bind fun a=>(p.2 σ a.2).bind fun b=>(oz r σ b.2).bind fun q=>some ((a.1,b.1)::q.1,q.2)
def putAll (n:Nat):List (D×D)->G->Option G
 | [],g=>some g
 | p::r,g=>(gP (.aQ n) p.1 p.2 g).bind fun g'=>putAll n r g'
def gY (ps:List (FE×FE)):FE:=fun σ g=>(oz ps σ (g ++ [[]])).bind fun q=>(putAll g.length q.1 q.2).map fun g'=>(.aQ g.length,g')
inductive gG (K:KW)(H:Hp)(ι:Ix):List (D×D)->List (Value×Value)->Prop
 | nil:gG K H ι [] []
 | cons {d1 d2:D} {x y:V} {u v:Value} {ds us} (h1:Rel K H ι d1 x) (h2:RelV x u) (h3:Rel K H ι d2 y) (h4:RelV y v) (r:gG K H ι ds us):gG K H ι ((d1,d2)::ds) ((u,v)::us)
theorem gG.ext {K H ι H' ι' ds us}(r:gG K H ι ds us)(e:Ext H ι H' ι'):gG K H' ι' ds us:=by
 induction r with
 | nil=>exact .nil
 | cons h1 h2 h3 h4 _ ih=>exact .cons (Rel.ext e _ h1) h2 (Rel.ext e _ h3) h4 ih
section
variable {X:Cx}
def dI (X:Cx):List (Option Expr)->List Expr->List (FE×FE)->Prop
 | [],[],[]=>True
 | some k::ks,v::vs,p::r=>DE X k p.1/\DE X v p.2/\dI X ks vs r
 | _,_,_=>False
theorem oB {pos:Pos}:∀(ps:List (FE×FE)) (keys:List (Option Expr)) (vals:List Expr),dI X keys vals ps->∀{pins:List (Addr×Obj)} {s:Shared} {σ:L2.St} {H:Hp} {ι:Ix} {σd:Sg} {g g':G} {ds:List (D×D)},Inv X pins σ H s->au X.kw H ι g->aS X.kw H ι σd σ->oz ps σd g=some (ds,g') ->
  wpAny (model X.prog X.w) X.A (evalPairs (pairTrees keys vals X.env pos)) (fun us s'=>∃H' ι',Inv X pins σ H' s'/\Ext H ι H' ι'/\au X.kw H' ι' g'/\gG X.kw H' ι' ds us) X.xe s
 | [],keys,vals,hd,pins,s,σ,H,ι,σd,g,g',ds,I,G0,S0,h=>by
  have e:keys = []/\vals = []:=by
    cases keys with
    | nil=>cases vals with | nil=>exact⟨rfl,rfl⟩ | cons _ _=>simp [dI] at hd
    | cons k _=>cases k<;>cases vals<;>simp [dI] at hd
  obtain⟨rfl,rfl⟩:=e
  cases h
  exact pairTrees_nil_walk ⟨H,ι,I,Ext.refl,G0,.nil⟩
 | p::ps,keys,vals,hd,pins,s,σ,H,ι,σd,g,g',ds,I,G0,S0,h=>by
  obtain⟨k,ks,v,vs,rfl,rfl,h1,h2,h3⟩:∃k ks v vs,keys=some k::ks/\vals=v::vs/\DE X k p.1/\DE X v p.2/\dI X ks vs ps:=by
    cases keys with
    | nil=>cases vals<;>simp [dI] at hd
    | cons k ks =>
     cases k with
     | none=>cases vals<;>simp [dI] at hd
     | some k =>
      cases vals with
      | nil=>simp [dI] at hd
      | cons v vs=>simp only [dI] at hd;exact⟨k,ks,v,vs,rfl,rfl,hd⟩
  . simp only [oz] at h
    obtain⟨⟨d1,g1⟩,e1,h⟩:=bind_some h
    obtain⟨⟨d2,g2⟩,e2,h⟩:=bind_some h
    obtain⟨⟨dr,g3⟩,e3,h⟩:=bind_some h
    cases h
    refine pairTrees_cons_walk (aI (h1.un pins s σ H (fun w H'=>∃ι1,Ext H ι H' ι1/\au X.kw H' ι1 g1/\Rel X.kw H' ι1 d1 w) I ⟨ι,σd,g,d1,g1,G0,S0,e1,fun H1 ι1 w e G1 r=>⟨ι1,e,G1,r⟩⟩) fun u1 s1 q1=>?_)
    obtain⟨w1,H1,I1,rv1,ι1,x1,G1,r1⟩:=q1
    refine aI (h2.un pins s1 σ H1 (fun w H'=>∃ι2,Ext H1 ι1 H' ι2/\au X.kw H' ι2 g2/\Rel X.kw H' ι2 d2 w) I1 ⟨ι1,σd,g1,d2,g2,G1,S0.ext x1,e2,fun H2 ι2 w e G2 r=>⟨ι2,e,G2,r⟩⟩) fun u2 s2 q2=>?_
    obtain⟨w2,H2,I2,rv2,ι2,x2,G2,r2⟩:=q2
    refine aI (oB ps ks vs h3 I2 G2 ((S0.ext x1).ext x2) e3) fun us s3 q3=>?_
    obtain⟨H3,ι3,I3,x3,G3,r3⟩:=q3
    exact⟨H3,ι3,I3,(x1.trans x2).trans x3,G3,.cons (Rel.ext (x2.trans x3) _ r1) rv1 (Rel.ext x3 _ r2) rv2 r3⟩
theorem nq (hu:X.A.units+64<cLine){a:Addr}{n:Nat}{E:Value->Shared->Prop}:∀(ds:List (D×D)) (us:List (Value×Value)) {pins:List (Addr×Obj)} {s:Shared} {σ:L2.St} {H:Hp} {ι:Ix} {g g':G} {Q:PUnit->Shared->Prop},Inv X pins σ H s->au X.kw H ι g->cW ι n a true->gG X.kw H ι ds us->putAll n ds g=some g' ->
  (∀s' H',Inv X pins σ H' s'->Ext H ι H' ι->au X.kw H' ι g'->Q PUnit.unit s') ->
  wpAny (model X.prog X.w) X.A (forIn us PUnit.unit fun(x:Value×Value) (_:PUnit)=>(do dictSet a x.1 x.2;pure (ForInStep.yield PUnit.unit):Sem (ForInStep PUnit))) Q E s
 | [],us,pins,s,σ,H,ι,g,g',Q,I,G0,ha,r,h,p=>by
  cases r
  cases h
  rw [List.forIn_nil]
  exact wpAny_pure (p s H I Ext.refl G0)
 | (k,v)::ds,us,pins,s,σ,H,ι,g,g',Q,I,G0,ha,r,h,p=>by
  cases r with
  | cons h1 h2 h3 h4 r =>
   simp only [putAll,gP] at h
   obtain⟨g1,h5,h⟩:=bind_some h
   obtain⟨xs,hx,h5⟩:=bind_some h5
   split at h5
   . rename_i hk
     simp only [Bool.and_eq_true] at hk
     cases h5
     obtain⟨es,vs,c,hH,hkd,hcl,rvs,hh,nd,sy,sz,rl⟩:=G0.nz hx ha
     have en:=Ent.of rvs hh rl
     have hz:=aD.le hk.2
     rw [qd en] at hz
     rw [List.forIn_cons]
     refine wpAny_bind (wpAny_bind (mh I (by omega) hH hcl sz en nd hk.1 h1 h2 h3 h4 fun tk h' es' e1 e2 e3 e0 e4 e5=>wpAny_pure ?_))
     refine nq hu ds _ (og I hH e4 e5) (oa G0 ha hkd hH e1 e2 sy e0 (by omega)) ha (r.ext (Ext.put ha hH)) h fun s' H' I' x' G'=>?_
     exact p s' H' I' ((Ext.put ha hH).trans x') G'
   . cases h5
theorem vL (hu:X.A.units+64<cLine){keys:List (Option Expr)}{vals:List Expr}{pos:Pos}{ps:List (FE×FE)}(hd:dI X keys vals ps)(hall:keys.all (·.isSome)=true)(hl:keys.length=vals.length)(h0:keys ≠ [])(h15:keys.length<=15) :
  DE X (.Dict keys vals pos) (gY ps):=.of (by
 intro pins s σ H Q I h
 obtain⟨ι,σd,g,d,g',G0,S0,h,p⟩:=h
 obtain⟨⟨ds,g1⟩,h1,h⟩:=bind_some h
 obtain⟨g2,h2,h⟩:=Option.map_eq_some_iff.mp h
 cases h
 have hn:=pairTrees_length keys vals X.env pos hall hl
 have hne:pairTrees keys vals X.env pos ≠ []:=fun he=>by
  rw [he] at hn
  exact h0 (List.length_eq_zero_iff.mp hn.symm)
 rw [arm_eval_Dict,zip_pairTrees keys vals X.env pos hall hl,dictDisplay_pairs _ hne (by rw [hn];omega)]
 have hf:H s.heap.objs.size=none:=I.hok.fresh (Nat.le_refl _)
 have hg:∀h:Heap,(h.push { cls:=.type "dict",data:=.dict #[] }).get? h.objs.size=some { cls:=.type "dict",data:=.dict #[] }:=fun h=>Heap.get?_push_size _ rfl
 have I1:Inv X pins σ (upd H s.heap.objs.size (dO s.heap.objs.size [] 0)) { s with heap:=s.heap.push { cls:=.type "dict",data:=.dict #[] } }:=I.laid (t':=s.toks) (fun b u e=>Heap.get?_push_of_some _ e) (Nat.le_refl _) ⟨hg _,⟨_,hg _⟩,fun h1 h2 q k=>k _ q⟩
 have x1:Ext H ι (upd H s.heap.objs.size (dO s.heap.objs.size [] 0)) (ι.more s.heap.objs.size 1):=Ext.fm (b:=1) hf
 have G1:au X.kw (upd H s.heap.objs.size (dO s.heap.objs.size [] 0)) (ι.more s.heap.objs.size 1) (g ++ [[]]):=G0.fm hf (.d 0 [] [] (Nat.zero_le _) .nil .nil (by simp [aO]) (beq_eq_false_iff_ne.mpr (Ne.symm (Nat.ne_of_lt (big I)))) (Nat.zero_le _)) (by simp [ag])
 have wC:cW (ι.more s.heap.objs.size 1) g.length s.heap.objs.size true:=cW.new G0.len
 refine wpAny_bind (wpAny_standAt (wpAny_bind ?_))
 unfold subDict
 refine wpAny_bind (wpAny_alloc ?_)
 refine wpAny_bind (wpAny_holding ?_)
 rw [if_pos (by rw [hn];exact h15)]
 refine wpAny_bind (aI (oB ps keys vals hd I1 G1 (S0.ext x1) h1) fun us s1 q=>?_)
 obtain⟨H1,ι1,I2,x2,G2,rp⟩:=q
 refine wpAny_holding (wpAny_bind (nq hu ds us I2 G2 (x2.at wC) rp h2 fun s' H' I' x' G'=>wpAny_pure (wpAny_pure (wpAny_pure ?_))))
 refine⟨.ref s.heap.objs.size,H',I',rfl,p H' ι1 _ ((x1.trans x2).trans x') G' ?_⟩
 simp only [Rel]
 exact⟨_,rfl,x2.at wC⟩)
end
end L3
namespace DK
open PySem PySem.Spec PyProof.Rows L2 L3
section
variable {prog:Program}{w:World}{A:Around}{E:Value->Shared->Prop}{s:Shared}{it d:Addr}{i n ep:Nat}{es:Array DictEntry}{Q:Option Value->Shared->Prop}
theorem next_end (hh:A.handled=none)(hit:s.heap.IsKeyIter it d i n ep)(ho:s.heap.get? d=some { cls:=.type "dict",data:=.dict es ep })(hn:es.size=n)(he:es.size<=i)
  (hQ:∀h',Heap.ExtBut it s.heap h'->Q none { s with heap:=h' }):wpAny (model prog w) A (pyNext (.ref it)) Q E s:=by
 subst hn
 obtain⟨o,h1,h2,h3⟩:=id hit
 have T:=hit.typeIs
 have own:Builtin.Dict_items.ownsTuple "dict_keyiterator" = false:=by decide
 have hh':A.in1.handled=none:=hh
 have ge:es[i]? = none:=Array.getElem?_eq_none he
 unfold pyNext
 refine wpAny_bind (wpAny_attempt (wpAny_callSpecial?_slot (name:=Str.ofString "__next__") T F.slot_dict_keyiterator_next (wpAny_call_entry F.slot_dict_keyiterator_next T F.entry_dict_keyiterator_next ?_ (F.args_dict_keyiterator_next_1 _))))
 unfold Builtin.«dict_keyiterator.__next__»
 wp_walk using (wpAny_typeNameOfWhole_keyiter T),(wpAny_fieldsOf h1 h3),(wpAny_dictEntries ho rfl),(wpAny_dictEpoch ho rfl)
 have ni:¬((i:Int)<0):=by omega
 simp only [ni,if_false,Int.toNat_natCast,ge]
 wp_walk using (wpAny_typeNameOfWhole_keyiter T),(wpAny_setField h1 h3 (by simp [own]))
 unfold raiseNew
 refine wpAny_bind (wpAny_handled ?_)
 rw [hh']
 refine wpAny_bind (wpAny_pure (wpAny_throw (wpAny_bind (wpAny_isInstance (T:="StopIteration") (b:=true) (v:=.ref _) (by exact⟨_,Heap.get?_push_size _ rfl,rfl⟩) isSubtype_stop ?_))))
 exact wpAny_pure (hQ _ (((Heap.SameBut.update ..).extBut.push _).push _))
theorem next_item {e:DictEntry}(hit:s.heap.IsKeyIter it d i n ep)(ho:s.heap.get? d=some { cls:=.type "dict",data:=.dict es ep })(hn:es.size=n)(he:es[i]? = some e)
  (hQ:∀h',h'.IsKeyIter it d (i+1) n ep->Heap.SameBut it s.heap h'->Q (some e.key) { s with heap:=h' }):wpAny (model prog w) A (pyNext (.ref it)) Q E s:=by
 subst hn
 obtain⟨o,h1,h2,h3⟩:=id hit
 have T:=hit.typeIs
 have ni:¬((i:Int)<0):=by omega
 have hit':(s.heap.update it (Obj.mapFields (·.setIfInBounds 1 (rawInt ((i:Int)+1))))).IsKeyIter it d (i+1) es.size ep :=
  ⟨_,Heap.get?_update_self _ h1 (Obj.isFreed_of_fields (Obj.data_mapFields h3 _)),(Obj.cls_mapFields ..).trans h2,by rw [Obj.data_mapFields h3];simp [rawInt]⟩
 unfold pyNext
 refine wpAny_bind (wpAny_attempt (wpAny_callSpecial?_slot (name:=Str.ofString "__next__") T F.slot_dict_keyiterator_next (wpAny_call_entry F.slot_dict_keyiterator_next T F.entry_dict_keyiterator_next ?_ (F.args_dict_keyiterator_next_1 _))))
 unfold Builtin.«dict_keyiterator.__next__»
 wp_walk using (wpAny_typeNameOfWhole_keyiter T),(wpAny_fieldsOf h1 h3),(wpAny_dictEntries ho rfl),(wpAny_dictEpoch ho rfl)
 simp only [ni,if_false,Int.toNat_natCast,he]
 have own:Builtin.Dict_items.ownsTuple "dict_keyiterator" = false:=by decide
 refine wpAny_bind (wpAny_bind (wpAny_typeNameOfWhole_keyiter T (wpAny_pure (wpAny_bind (wpAny_isOneOf_keyiter T ?_)))))
 rw [own]
 refine wpAny_bind (wpAny_setField h1 h3 (by simp) ?_)
 have T':Shared.TypeIs { s with heap:=s.heap.update it (Obj.mapFields (·.setIfInBounds 1 (rawInt ((i:Int)+1)))) } (.ref it) "dict_keyiterator":=hit'.typeIs
 refine wpAny_bind (wpAny_holding (wpAny_bind (wpAny_isOneOf_keyiter T' (wpAny_pure (wpAny_pure ⟨_,rfl,wpAny_pure (hQ _ hit' (Heap.SameBut.update ..))⟩)))))
theorem vi {Q:Value->Shared->Prop}(hd:(d == sysModules)=false)(ho:s.heap.get? d=some { cls:=.type "dict",data:=.dict es ep })
  (hQ:Q (.ref s.heap.objs.size) { s with heap:=s.heap.push { cls:=.type "dict_keyiterator",data:=.fields #[.ref d,.int 0 0,.int es.size 0,.int ep 0] } }):wpAny (model prog w) A (pyIter (.ref d)) Q E s:=by
 have T:s.TypeIs (.ref d) "dict":=⟨_,ho,rfl⟩
 refine wpAny_pyIter_slot T F.slot_dict_iter (wpAny_call_entry F.slot_dict_iter T F.entry_dict_iter ?_ (F.args_dict_iter_1 _))
 unfold Builtin.«dict.__iter__» Builtin.Dict.dictSlotNone Builtin.Dict.showsAll
 wp_walk using (wpAny_notOrdered_dict T),(wpAny_dictEntries ho rfl),(wpAny_dictEpoch ho rfl)
 exact⟨_,rfl,"dict_keyiterator",_,⟨_,Heap.get?_push_size _ rfl,rfl⟩,F.slot_dict_keyiterator_next.lookup,by simpa [rawInt] using hQ⟩
end
end DK
namespace L3
open PySem PySem.Spec PyProof.Rows L2 SeqAt DK
theorem iW:∀{es:List DictEntry} {i:Nat} {e:DictEntry},es[i]? = some e->(fR es)[2*i]? = some e.key
 | [],i,e,h=>by simp at h
 | x::es,0,e,h=>by simp at h;subst h;rfl
 | x::es,i+1,e,h=>by
  rw [show 2*(i+1)=2*i+1+1 by omega]
  simpa [fR] using iW (by simpa using h)
def Cz (a:Addr)(n c:Nat):It :=
 ⟨fun i H=>∃es vs,H a=some (dO a es c)/\Vals vs (fR es)/\es.length=n/\i<n,fun i H x H'=>H'=H /\ ∀es vs,H a=some (dO a es c)->Vals vs (fR es)->vs[2*i]? = some x,fun i H=>∃es,H a=some (dO a es c)/\es.length=n/\n<=i⟩
theorem uf {P:Program}{w:World}{K:PySem.W.Frag}{tg:Expr}(a it:Addr)(n c:Nat):Turn P w K tg (Cz a n c) [it] it (fun i h=>h.IsKeyIter it a i n (n-c)) where
 mem:=by simp
 obj:=fun i h st b hb=>by
  have e:b=it:=by simpa using hb
  subst e
  obtain⟨o,e,c,d⟩:=st
  exact⟨o,e,fun v z=>by rw [d] at z;cases z⟩
 keep:=fun i h h' st k=>by
  obtain⟨o,e,c,d⟩:=st
  exact⟨o,k it (by simp) o e,c,d⟩
 item:=by
  intro X hP hw hK hc i pins s σ H E I hf st hg
  subst hP hw hK
  obtain⟨es,vs,hH,hv,hn,hi⟩:=hg
  have ho:=fY I hH
  rw [hn] at ho
  have hil:i<es.length:=by omega
  obtain⟨x,hx⟩:∃x,vs[2*i]? = some x:=by
   have h1:=iW (List.getElem?_eq_getElem hil)
   have h2:=(List.getElem?_eq_some_iff.mp h1).1
   exact⟨_,List.getElem?_eq_getElem (by rw [hv.length];exact h2)⟩
  obtain⟨u,hu,ru⟩:=hv.get hx
  have hk:=iW (List.getElem?_eq_getElem hil)
  rw [hk] at hu
  cases hu
  obtain⟨f0,f1,f2,f3,f4,f5⟩:=hf it (by simp)
  refine next_item (e:=es[i]) st ho (by simpa using hn) (by simp [hil]) fun h' st' sb=>?_
  have I1:Inv X pins σ H { s with heap:=h' }:=I.turned (t':=s.toks) (fun b o hb e=>(sb.2 b hb).trans e) f0 f1 f3 f4 f5
  obtain⟨o,e,c,d⟩:=id st'
  refine⟨_,rfl,m8 (s:={ s with heap:=h' }) e c d (by decide) ⟨x,H,I1,ru,⟨rfl,fun es' vs' h1 h2=>?_⟩,st',fun b hb=>(hf b hb).1⟩⟩
  have ho':=fY I h1
  have ho2:=fY I hH
  rw [ho2] at ho'
  have:es=es':=by
   injection ho' with q
   injection q with _ _ q _
   injection q with q _
   simpa using congrArg Array.toList q
  subst this
  rw [Vals.inj h2 hv]
  exact hx
 done:=by
  intro X hP hw hK hc i pins s σ H E I hf st hg
  subst hP hw hK
  obtain⟨es,hH,hn,hi⟩:=hg
  have ho:=fY I hH
  rw [hn] at ho
  obtain⟨f0,f1,f2,f3,f4,f5⟩:=hf it (by simp)
  exact next_end (I.ok.hd hc) st ho (by simpa using hn) (by simp;omega) fun h' eb=>⟨rfl,I.turned (t':=s.toks) (fun b o hb e=>eb b o hb e) f0 f1 f3 f4 f5⟩
 self:=fun _ _ _ _ _ st h=>wpAny_pyIter_keyiter st h
section
variable {X:Cx}{tg:Expr}
def C9 (tl:TE):TI:=fun σ H R=>tl σ H fun x H1=>∃a n c,x = .ref a/\(∃es,H1 a=some (dO a es c)/\es.length=n)/\(a == sysModules)=false/\R (Cz a n c) H1
theorem yV {l:Expr}{tl:TE}(hl:PE X l tl):PI X tg l (C9 tl):=by
 intro pins s σ H R I h
 refine aI (hl pins s σ H _ I h) fun v s1 ⟨x,H1,I1,r1,q1⟩=>?_
 obtain⟨a,n,c,e,⟨es,hH,hn⟩,hs,q⟩:=q1
 subst e
 cases r1
 have ho:=fY I1 hH
 refine vi hs ho ?_
 refine⟨s1.heap.objs.size,[s1.heap.objs.size],_,_,H1,rfl,I1.kept (t':=s1.toks) fun b o e=>Heap.get?_push_of_some _ e,uf a _ n c,⟨_,Heap.get?_push_size _ rfl,rfl,by simp [hn]⟩,fun b hb=>?_,q⟩
 have e:b=s1.heap.objs.size:=by simpa using hb
 subst e
 exact I1.fF (Nat.le_refl _) (I1.hok.fresh (Nat.le_refl _))
end
end L3
namespace L3
open PySem PySem.Spec PyProof.Rows L2
def cu (nn L:Nat)(t:FG)(c:FT)(e:FE):Nat->Sg->G->Option (List D×G)
 | 0,_,g=>((g[nn]?).map aO).bind fun xs=>if xs.length=L then some ([],g) else none
 | r+1,σ,g=>((g[nn]?).map aO).bind fun xs=>if xs.length=L then(xs[L-(r+1)]?).bind fun d=>(t d σ g).bind fun q=>(c q.1 q.2).bind fun k=>if k.1=true then(e q.1 k.2).bind fun r'=>(cu nn L t c e r q.1 r'.2).bind fun z=>some (r'.1::z.1,z.2) else cu nn L t c e r q.1 k.2 else none
theorem pd {nn L:Nat}{t:FG}{c:FT}{e:FE}{σ:Sg}{g g':G}{all:List D}(h:cu nn L t c e 0 σ g=some (all,g')):∃xs,(g[nn]?).map aO=some xs/\xs.length=L/\all = []/\g'=g:=by
 simp only [cu] at h
 obtain⟨xs,hx,h⟩:=bind_some h
 split at h
 . rename_i z
   cases h
   exact⟨xs,hx,z,rfl,rfl⟩
 . cases h
theorem o_ {nn L r:Nat}{t:FG}{c:FT}{e:FE}{σ:Sg}{g:G}{o:List D×G}(h:cu nn L t c e (r+1) σ g=some o):∃xs d,(g[nn]?).map aO=some xs/\xs.length=L/\xs[L-(r+1)]? = some d/\((t d σ g).bind fun q=>(c q.1 q.2).bind fun k=>if k.1=true then(e q.1 k.2).bind fun r'=>(cu nn L t c e r q.1 r'.2).bind fun z=>some (r'.1::z.1,z.2) else cu nn L t c e r q.1 k.2)=some o:=by
 simp only [cu] at h
 obtain⟨xs,hx,h⟩:=bind_some h
 split at h
 . rename_i z
   obtain⟨d,hd,h⟩:=bind_some h
   exact⟨xs,d,hx,z,hd,h⟩
 . cases h
def k_ (K:KW)(J:It)(H:Hp)(ι:Ix)(nn L:Nat):Prop :=
 ∀(i:Nat) H1 ι1 g1,fz H ι H1 ι1->au K H1 ι1 g1->∀xs,(g1[nn]?).map aO=some xs->xs.length=L->(L<=i->J.stop i H1) /\ ∀d,xs[i]? = some d->J.go i H1 /\ ∀x H2,J.yld i H1 x H2->Ext H1 ι1 H2 ι1/\au K H2 ι1 g1/\Rel K H2 ι1 d x
inductive Be (K:KW)(f:gi)(σ:L2.St)(H:Hp)(R:(It->Hp->Prop)):Prop
 | mk (ι:Ix) (σd:Sg) (g:G) (nn:Nat) (L:Nat) (g':G) (h0:au K H ι g) (h1:aS K H ι σd σ) (h2:f σd g=some (nn,L,g')) (h3:∀H' ι' J,Ext H ι H' ι'->au K H' ι' g'->k_ K J H' ι' nn L->R J H'):Be K f σ H R
structure xQ (X:Cx)(tg iter:Expr)(f:gi):Prop where of ::
 un:PI X tg iter (Be X.kw f)
def fG (f:FE):gi:=fun σ g=>(f σ g).bind fun r=>match r.1 with | .aQ n=>(r.2[n]?).bind fun xs=>some (n,(aO xs).length,r.2) | _=>none
theorem oP {K H ι}{xs:List D}{es:List DictEntry}(en:DK.Ent K H ι xs es):(aO xs).length=es.length:=by
 induction en with
 | nil=>rfl
 | cons _ _ _ _ _ _ _ ih=>simp [aO,ih]
theorem zp {xs:List D}:∀{i:Nat} {d:D},(aO xs)[i]? = some d->xs[2*i]? = some d:=by
 have:∀(n:Nat) (xs:List D),xs.length<=n->∀{i:Nat} {d:D},(aO xs)[i]? = some d->xs[2*i]? = some d:=fun n=>by
  induction n with
  | zero=>intro xs h i d e;have:xs = []:=List.length_eq_zero_iff.mp (by omega);subst this;simp [aO] at e
  | succ n ih =>
   intro xs h i d e
   match xs,h,e with
   | [],_,e=>simp [aO] at e
   | [x],_,e=>simp [aO] at e
   | k::v::r,h,e =>
    cases i with
    | zero=>simpa [aO] using e
    | succ i =>
     rw [show 2*(i+1)=2*i+1+1 by omega]
     simpa using ih r (by simp at h;omega) (by simpa [aO] using e)
 exact fun {i d} h=>this xs.length xs (Nat.le_refl _) h
theorem k_.aQ {K H ι a n L c}(h:cW ι n a true)(hk:ι.kd n=c+1):k_ K (Cz a L c) H ι n L:=fun i H1 ι1 g1 e1 G1 xs hx hl=>by
 obtain⟨ys,hy,rfl⟩:=Option.map_eq_some_iff.mp hx
 obtain⟨es,vs,c1,hH,hkd,hcl,rvs,hh,nd,sy,sz,rl⟩:=G1.nz hy (e1.at h)
 rw [e1.kds n (List.getElem?_eq_some_iff.mp h.1).1,hk] at hkd
 cases hkd
 have en:=DK.Ent.of rvs hh rl
 have hlen:=oP en
 refine⟨fun h=>⟨es,hH,by omega,h⟩,fun d hd=>?_⟩
 have hi:i<(aO ys).length:=(List.getElem?_eq_some_iff.mp hd).1
 refine⟨⟨es,vs,hH,rvs,by omega,by omega⟩,fun x H2 y=>?_⟩
 obtain⟨rfl,y⟩:=y
 have:=y es vs hH rvs
 obtain⟨v,hv,rv⟩:=rl.get (zp hd)
 rw [hv] at this
 cases this
 exact⟨Ext.refl,G1,rv⟩
theorem pB {X:Cx}{tg l:Expr}{fe:FE}(hl:DE X l fe):xQ X tg l (fG fe):=.of (PI.imp (yV hl.un) fun σ H Q h=>by
 obtain⟨ι,σd,g,nn,L,g',G0,S0,h,p⟩:=h
 obtain⟨⟨d1,g1⟩,h1,h⟩:=bind_some h
 cases d1 with
 | aQ n =>
  obtain⟨xs,hx,h⟩:=bind_some h
  cases h
  refine tD.bind G0 S0 h1 fun H1 ι1 v e1 G1 S1 r1=>?_
  simp only [Rel] at r1
  obtain⟨a,rfl,ha⟩:=r1
  obtain⟨es,vs,c,hH,hkd,hcl,rvs,hh,nd,sy,sz,rl⟩:=G1.nz hx ha
  have en:=DK.Ent.of rvs hh rl
  exact⟨a,_,c,rfl,⟨es,hH,(oP en).symm⟩,sy,p H1 ι1 _ e1 G1 (.aQ ha hkd)⟩
 | _=>cases h)
inductive nG (X':Cx)(t:FG)(c:FT)(e:FE)(fp:List Addr)(Dl:Addr)(tn:Nat->Heap->Prop)(nn L:Nat)(all:List D)(H1:Hp)(ι1:Ix)(g':G)(n:Nat)(s:Shared):Prop
 | mk (i:Nat) (σ:L2.St) (H:Hp) (ιo:Ix) (σd:Sg) (g:G) (vs:List V) (acc more:List D) (hn:n=L+1-i) (hil:i<=L) (I:Inv X' [] σ H s) (ti:tn i s.heap) (fri:∀b∈fp,H b=none) (E1:Ext H1 ι1 H ιo) (G1:au X'.kw H (Ix.hide ιo Dl) g) (S1:aS X'.kw H (Ix.hide ιo Dl) σd σ)
  (hHD:H Dl=some (.lst vs)) (racc:ag X'.kw H (Ix.hide ιo Dl) acc vs) (hal:acc.length<=i) (hf:cu nn L t c e (L-i) σd g=some (more,g')) (ea:all=acc++more):nG X' t c e fp Dl tn nn L all H1 ι1 g' n s
theorem qC {X':Cx}{tg iter elt:Expr}{ifs:List Expr}{scope:Scope}{pos:Pos}{t:FG}{c:FT}{e:FE}{J:It}{fp:List Addr}{it Dl:Addr}{tn:Nat->Heap->Prop}{all:List D}{nn L:Nat}{H1:Hp}{ι1:Ix}{g':G}{R:Result->Shared->Prop}
   (hxe:X'.xe=fun _ _=>False) (hc:X'.calm=true) (T:Turn X'.prog X'.w X'.kw tg J fp it tn) (hfp:∀b∈fp,cE X' [] X'.H₀ b) (J1:k_ X'.kw J H1 ι1 nn L) (hD:H1 Dl=none) (hz:L<=sizeLine)
   (hg:DG X' tg t) (hi:dZ X' ifs c) (he:DE X' elt e)
   (fin:∀s' σ' H' ιo vs,Inv X' [] σ' H' s'->(∀b∈fp,H' b=none)->Ext H1 ι1 H' ιo->au X'.kw H' (Ix.hide ιo Dl) g'->H' Dl=some (.lst vs)->ag X'.kw H' (Ix.hide ιo Dl) all vs->R (.ok .next) s') :
   ∀(s:Shared) (σ:L2.St) (H:Hp) (ιo:Ix) (σd:Sg) (g:G),Inv X' [] σ H s->tn 0 s.heap->(∀b∈fp,H b=none)->Ext H1 ι1 H ιo->au X'.kw H (Ix.hide ιo Dl) g->aS X'.kw H (Ix.hide ιo Dl) σd σ->H Dl=some (.lst [])->cu nn L t c e L σd g=some (all,g') ->
    codeAny (model X'.prog X'.w) X'.A (.compLoop (.ListComp elt [⟨tg,iter,ifs,0⟩] scope pos) 0 (.ref it) (.ref Dl) X'.env) R s:=by
 intro s σ H ιo σd g I t0 fr0 E0 G0 S0 hH hf0
 have stat:∀{H':Hp},(∀b∈fp,H' b=none)->∀b∈fp,cE X' [] H' b:=fun hn b hb=>⟨hn b hb,(hfp b hb).2⟩
 refine codeAny_loop rfl (nG X' t c e fp Dl tn nn L all H1 ι1 g') ?_ (L+1)
   ⟨0,σ,H,ιo,σd,g,[],[],all,rfl,Nat.zero_le _,I,t0,fr0,E0,G0,S0,hH,by simp [ag],Nat.le_refl _,by simpa using hf0,rfl⟩
 clear hf0 hH S0 G0 E0 fr0 t0 I g σd ιo H σ s
 rintro n s ⟨i,σ,H,ιo,σd,g,vs,acc,more,rfl,hil,I,ti,fri,E1,G1,S1,hHD,racc,hal,hf,rfl⟩
 show wpAny _ X'.A ((compTurn (.ListComp elt [⟨tg,iter,ifs,0⟩] scope pos) 0 (.ref it) (.ref Dl) X'.env).onRaise (fun x=>do noteFrame x X'.env;theTreesLotGoes x)) _ _ s
 refine wpAny_noted ?_
 rw [compTurn_list]
 refine wpAny_bind (wpAny_standAt (wpAny_bind ?_))
 have j1:=J1 i H (Ix.hide ιo Dl) g (E1.vS hD) G1
 by_cases hlt:i<L
 . rw [show L-i=(L-(i+1))+1 by omega] at hf
   obtain⟨xs,d0,hxs,hxl,hd0,hf⟩:=o_ hf
   rw [show L-(L-(i+1)+1)=i by omega] at hd0
   obtain⟨st,go⟩:=j1 xs hxs hxl
   obtain⟨go,yl⟩:=go d0 hd0
   refine aI (T.item X' rfl rfl rfl hc i [] s σ H _ I (stat fri) ti go) fun r s4 ⟨u,hr,h4⟩=>?_
   subst hr
   refine wpAny_bind (aI h4 fun _ s5 ⟨x,H5,I5,r5,y5,t5,fr5⟩=>?_)
   obtain⟨e5,G5,rd5⟩:=yl x H5 y5
   obtain⟨⟨σ6,g6⟩,h6,hf⟩:=bind_some hf
   obtain⟨⟨k7,g7⟩,h7,hf⟩:=bind_some hf
   have I5':=I5.pinned (stat fr5) (T.obj _ _ t5)
   have lift:∀{α:Type} {tr:Sem α} {Q:α->Shared->Prop} {E:Value->Shared->Prop} {s:Shared},wpAny (model X'.prog X'.w) X'.A tr Q X'.xe s->wpAny (model X'.prog X'.w) X'.A tr Q E s:=fun h=>wpAny_mono h (fun _ _ q=>q) fun _ _ z=>by rw [hxe] at z;exact z.elim
   have again:∀{s9:Shared} {σ9:L2.St} {H9:Hp} {ι9:Ix} {σd9:Sg} {g9:G} {vs9:List V} {acc9:List D} {more9:List D},Inv X' ([]++gr fp s5.heap) σ9 H9 s9->Ext H1 ι1 H9 ι9->au X'.kw H9 (Ix.hide ι9 Dl) g9->aS X'.kw H9 (Ix.hide ι9 Dl) σd9 σ9 ->
     H9 Dl=some (.lst vs9)->ag X'.kw H9 (Ix.hide ι9 Dl) acc9 vs9->acc9.length<=i+1->cu nn L t c e (L-(i+1)) σd9 g9=some (more9,g')->acc++more=acc9++more9 ->
     ∃m,m<L+1-i/\nG X' t c e fp Dl tn nn L (acc++more) H1 ι1 g' m s9:=by
    intro s9 σ9 H9 ι9 σd9 g9 vs9 acc9 more9 I9 E9 G9 S9 h9 r9 l9 f9 a9
    refine⟨L+1-(i+1),by omega,i+1,σ9,H9,ι9,σd9,g9,vs9,acc9,more9,rfl,hlt,I9.eZ,T.keep _ _ _ t5 fun b hb o e=>(I9.pin (b,o) (List.mem_append_right _ (List.mem_append_right _ (cO hb e)))).1,fun b hb=>?_,E9,G9,S9,h9,r9,l9,f9,a9⟩
    obtain⟨o,e,d⟩:=T.obj _ _ t5 b hb
    exact(I9.pin (b,o) (List.mem_append_right _ (List.mem_append_right _ (cO hb e)))).2.1
   refine wpAny_bind (lift (aI (hg.un _ s5 σ H5 x u (fun σ' H'=>∃ι6,Ext H5 (Ix.hide ιo Dl) H' ι6/\au X'.kw H' ι6 g6/\aS X'.kw H' ι6 σ6 σ') I5' r5 ⟨Ix.hide ιo Dl,σd,g,d0,σ6,g6,G5,S1.ext e5,rd5,h6,fun H6 ι6 σ6' e6 G6 S6=>⟨ι6,e6,G6,S6⟩⟩) fun _ s6 q6=>?_))
   obtain⟨σ6',H6,I6,ι6,e6,G6,S6⟩:=q6
   refine wpAny_bind (lift (aI (hi.un _ s6 σ6' H6 (fun b H'=>b=k7 /\ ∃ι7,Ext H6 ι6 H' ι7/\au X'.kw H' ι7 g7) I6 ⟨ι6,σ6,g6,k7,g7,G6,S6,h7,fun H7 ι7 e7 G7=>⟨rfl,ι7,e7,G7⟩⟩) fun ok s7 q7=>?_))
   obtain⟨H7,I7,rfl,ι7,e7,G7⟩:=q7
   have e57:=(e5.trans e6).trans e7
   obtain⟨E7,ei7⟩:=E1.jv e57
   have hD7:H7 Dl=some (.lst vs):=e57.same Dl _ hHD (G1.hid Dl List.mem_cons_self).1
   have r7:=ag.ext e57 _ racc
   have S7:=S6.ext e7
   cases ok with
   | false =>
    simp only [Bool.false_eq_true,if_false] at hf
    refine wpAny_pure ⟨rfl,?_⟩
    rw [ei7] at G7 S7 r7
    exact again I7 E7 G7 S7 hD7 r7 (by omega) hf rfl
   | true =>
    simp only [if_true] at hf
    obtain⟨⟨d8,g8⟩,h8,hf⟩:=bind_some hf
    obtain⟨⟨more9,g9⟩,h9,hf⟩:=bind_some hf
    obtain⟨rfl,rfl⟩:d8::more9=more/\g9=g':=by cases hf;exact⟨rfl,rfl⟩
    refine wpAny_bind (wpAny_bind (lift (aI (he.un _ s7 σ6' H7 (fun v H'=>∃ι8,Ext H7 ι7 H' ι8/\au X'.kw H' ι8 g8/\Rel X'.kw H' ι8 d8 v) I7 ⟨ι7,σ6,g7,d8,g8,G7,S7,h8,fun H8 ι8 v e8 G8 r8=>⟨ι8,e8,G8,r8⟩⟩) fun y s8 q8=>?_)))
    obtain⟨v8,H8,I8,rv8,ι8,e8,G8,r8⟩:=q8
    have e58:=e57.trans e8
    obtain⟨E8,ei8⟩:=E1.jv e58
    have hD8:H8 Dl=some (.lst vs):=e58.same Dl _ hHD (G1.hid Dl List.mem_cons_self).1
    have racc8:=ag.ext e58 _ racc
    have S8:=S7.ext e8
    have hlen:vs.length<sizeLine:=by rw [<- racc.length];omega
    rw [ei8] at G8 S8 racc8 r8
    refine wpAny_bind (lift (aI (gE (X:=X') _ s8 σ6' H8 (.ref Dl) [v8] (.ref Dl) [y] (fun _ H'=>H'=upd H8 Dl (.lst (vs ++ [v8]))) I8 rfl (.cons rv8 .nil) ⟨Dl,vs,v8,rfl,rfl,hD8,hlen,rfl⟩) fun _ s9 q9=>?_))
    obtain⟨_,H9,I9,_,rfl⟩:=q9
    refine wpAny_pure (wpAny_pure ⟨rfl,?_⟩)
    refine again (acc9:=acc ++ [d8]) I9 (E8.jr hD) (G8.grow hD8) ⟨S8.1,fun j d q=>let⟨v,a,b⟩:=S8.2 j d q;⟨v,a,Rel.grow hD8 d b⟩⟩ aR ?_ (by simp;omega) h9 (by simp)
    exact ag.append (ag.grow hD8 _ racc8) (by simp only [ag];exact⟨v8,[],rfl,Rel.grow hD8 _ r8,rfl⟩)
 . have ei:i=L:=by omega
   subst ei
   rw [Nat.sub_self] at hf
   obtain⟨xs,hxs,hxl,rfl,rfl⟩:=pd hf
   obtain⟨st,go⟩:=j1 xs hxs hxl
   refine aI (T.done X' rfl rfl rfl hc _ [] s σ H _ I (stat fri) ti (st (Nat.le_refl _))) fun r s4 ⟨hr,I4⟩=>?_
   subst hr
   exact wpAny_pure (fin s4 σ H ιo vs I4 fri E1 G1 hHD (by simpa using racc))
def gS (mk:List D->G->Option (D×G))(fi:gi)(fr:List (Option Nat))(t:FG)(c:FT)(e:FE):FE:=fun σ g=>(fi σ g).bind fun r=>if aD r.2.1=true then(cu r.1 r.2.1 t c e r.2.1 (bu fr σ) r.2.2).bind fun q=>mk q.1 q.2 else none
section
variable {X:Cx}{tg iter elt:Expr}{ifs:List Expr}{scope:Scope}{pos cpos:Pos}{N:List Str}{fr:List (Option Nat)}{fi:gi}{t:FG}{c:FT}{e:FE}
theorem rg {pins:List (Addr×Obj)}{s:Shared}{σ:L2.St}{H:Hp}{ι:Ix}{σd:Sg}{g g1 g':G}{all:List D}{nn L:Nat}{use:Option (Value->Sem Unit)}{Q:Value->Shared->Prop}
  (hxe:X.xe=fun _ _=>False) (hc:X.calm=true) (ok:du X N fr scope) (hit:xQ X tg iter fi) (hin:∀C s3 H fp pins,DG (aV X N scope C s3 H fp pins) tg t/\dZ (aV X N scope C s3 H fp pins) ifs c/\DE (aV X N scope C s3 H fp pins) elt e)
  (hs:∀x,foldedSetIterable iter X.env x=pure x) (I:Inv X pins σ H s) (G0:au X.kw H ι g) (S0:aS X.kw H ι σd σ) (h1:fi σd g=some (nn,L,g1)) (hz:aD L=true) (h2:cu nn L t c e L (bu fr σd) g1=some (all,g'))
  (fin:∀s' H' ιo vs Dl C,Inv X pins σ H' s'->cE X pins H' C->(∃m,s'.heap.Ns C m)->Ext H ι H' ιo->au X.kw H' (Ix.hide ιo Dl) g'->H' Dl=some (.lst vs)->ag X.kw H' (Ix.hide ιo Dl) all vs->Dl ∉ ιo.hd->H Dl=none->compPost (model X.prog X.w) X.A X.xe use Q (.ref Dl) C (.ok .next) s') :
  wpAny (model X.prog X.w) X.A (comprehension (.ListComp elt [⟨tg,iter,ifs,0⟩] scope pos) scope X.env cpos (newList []) false (eval iter X.env) use) Q X.xe s:=by
 have free:∀x∈scope.names,x.2 = .free->∃c,X.env.cells.lookup x.1=some c:=fun x hx hk=>I.ok.has x.1 (ok.free x hx hk).2
 refine wpAny_comprehension_free (use:=use) rfl hs (fI free) ok.kind ok.names (aI (hit.un pins s σ H (fun J H'=>∃ι1,Ext H ι H' ι1/\au X.kw H' ι1 g1/\k_ X.kw J H' ι1 nn L) I ⟨ι,σd,g,nn,L,g1,G0,S0,h1,fun H1 ι1 J e1 G1 J1=>⟨ι1,e1,G1,J1⟩⟩) fun xv s1 h1'=>aI h1' fun itv s2 q2=>?_)
 obtain⟨it,fp,tn,J,H1,rfl,I1,T,t1,f1,ι1,e1,G1,J1⟩:=q2
 refine wpAny_newObj_type ?_
 have hDn:H1 s2.heap.objs.size=none:=I1.hok.fresh (Nat.le_refl _)
 generalize hs3:({ s2 with heap:=s2.heap.push { cls:=.type "list",dict:=none,data:=.seq ([]:List Value).toArray } }:Shared)=s3
 have I3:Inv X pins σ (upd H1 s2.heap.objs.size (.lst [])) s3:=by
  rw [<- hs3]
  exact I1.laid (t':=s2.toks) (fun b u e=>Heap.get?_push_of_some _ e) (Nat.le_refl _) ⟨Nat.zero_le _,[],0,.nil,Heap.get?_push_size _ rfl⟩
 have k3:∀b o,s2.heap.get? b=some o->s3.heap.get? b=some o:=fun b o e=>by rw [<- hs3];exact Heap.get?_push_of_some _ e
 have sz3:s3.heap.objs.size=s2.heap.objs.size+1:=by rw [<- hs3];exact Heap.size_push ..
 have hfl:∀b∈fp,b<s2.heap.objs.size:=fun b hb=>let⟨o,eo,_⟩:=T.obj _ _ t1 b hb;Heap.lt_size eo
 have f3:∀b∈fp,cE X pins (upd H1 s2.heap.objs.size (.lst [])) b:=fun b hb=>⟨by rw [aJ (Nat.ne_of_lt (hfl b hb))];exact(f1 b hb).1,(f1 b hb).2⟩
 refine gK (rP I3) fun h4 hns' k4 kc=>?_
 have I4:=il (tk:=s3.toks) ok I3 f3 (fun b hb=>by rw [sz3];exact Nat.lt_succ_of_lt (hfl b hb)) hns' k4 kc
 obtain⟨hg,hi,he⟩:=hin s3.heap.objs.size s3 (upd H1 s2.heap.objs.size (.lst [])) fp pins
 have t4:tn 0 h4:=T.keep _ _ _ t1 fun b hb o e=>k4 b o (k3 b o e)
 have fx:∀b∈fp,cE (aV X N scope s3.heap.objs.size s3 (upd H1 s2.heap.objs.size (.lst [])) fp pins) [] (upd H1 s2.heap.objs.size (.lst [])) b:=fun b hb=>by
  refine⟨(f3 b hb).1,?_,?_,.inl hb,?_,?_⟩
  . exact Nat.ne_of_lt (by rw [sz3];exact Nat.lt_succ_of_lt (hfl b hb))
  . exact I4.ok.exfs b hb
  . exact(I4.ok.exf b hb).2
  . intro p hp
    have hp':p∈X.pn++pins:=by
      have q:p∈(X.pn++pins) ++ []:=hp
      simpa using q
    exact(f1 b hb).2.2.2.2.2 p hp'
 have loop:codeAny (model X.prog X.w) X.A (.compLoop (.ListComp elt [⟨tg,iter,ifs,0⟩] scope pos) 0 (.ref it) (.ref s2.heap.objs.size) (compEnvC scope (cellsOf scope X.env s3.heap.objs.size) s3.heap.objs.size X.env))
    (compPost (model X.prog X.w) X.A X.xe use Q (.ref s2.heap.objs.size) s3.heap.objs.size) { s3 with heap:=h4 }:=by
  refine qC (X':=aV X N scope s3.heap.objs.size s3 (upd H1 s2.heap.objs.size (.lst [])) fp pins) (all:=all) (g':=g') rfl hc T fx J1 hDn (aD.le hz) hg hi he ?_ _ _ _ ι1 (bu fr σd) g1 I4 t4 (fun b hb=>(f3 b hb).1) ((Ext.refl (H:=H1) (ι:=ι1)).jr hDn) (G1.hide hDn) ?_ aR h2
  . intro s' σ' H' ιo vs I' fr' E' G' hD' r'
    have I5:Inv X pins σ H' s':=I3.rF (ch:=fp) I'.os I'.base I'.hok I'.bare fun b hb=>⟨(f3 b hb).2.2.2.1,(f3 b hb).2.1,(f3 b hb).2.2.2.2.1,(f3 b hb).2.2.2.2.2⟩
    obtain⟨m,hm,_⟩:=I'.loc
    refine fin s' H' ιo vs _ _ I5 ?_ ⟨m,hm⟩ (e1.trans E') G' hD' r' ?_ ?_
    . have z:=I3.fF (H':=H') (b:=s3.heap.objs.size) (Nat.le_refl _) I'.free
      exact z
    . rw [E'.hid];exact G1.gW hDn
    . cases q:H s2.heap.objs.size with
      | none=>rfl
      | some o=>exact absurd hDn (e1.there _ (by rw [q];simp))
  . have S1:aS X.kw H1 ι1 (bu fr σd) (bu fr σ):=(S0.ext e1).sub fr
    exact⟨S1.1,fun j d q=>let⟨v,a,b⟩:=S1.2 j d q;⟨v,a,Rel.hide hDn d b⟩⟩
 exact codeAny_compStart_list loop (T.self _ 0 _ _ _ t4 loop)
theorem vT (hxe:X.xe=fun _ _=>False)(hc:X.calm=true)(ok:du X N fr scope)(hit:xQ X tg iter fi)(hin:∀C s3 H fp pins,DG (aV X N scope C s3 H fp pins) tg t/\dZ (aV X N scope C s3 H fp pins) ifs c/\DE (aV X N scope C s3 H fp pins) elt e)
   (hs:∀x,foldedSetIterable iter X.env x=pure x:=by intro _;rfl):DE X (.ListComp elt [⟨tg,iter,ifs,0⟩] scope pos) (gS bB fi fr t c e):=.of (by
 intro pins s σ H Q I h
 obtain⟨ι,σd,g,d,gg,G0,S0,h,p⟩:=h
 obtain⟨⟨nn,L,g1⟩,h1,h⟩:=bind_some h
 dsimp only at h
 split at h
 . rename_i hz
   obtain⟨⟨all,g'⟩,h2,h⟩:=bind_some h
   rw [eval_ListComp]
   refine rg (use:=none) hxe hc ok hit hin hs I G0 S0 h1 hz h2 fun s' H' ιo vs Dl C I' fC ⟨m,hm⟩ e' G' hD r hn hf0=>?_
   refine⟨m,hm,fun h'' sb=>⟨.ref Dl,H',?_,rfl,iF e' G' hD r hn h p⟩⟩
   obtain⟨f0,f1,f2,f3,f4,f5⟩:=fC
   exact I'.turned (t':=s'.toks) (fun b o hb e=>sb.extBut b o hb e) f0 f1 f3 f4 f5
 . cases h)
end
section
variable {σ:Sg}{g:G}{fa:FE}
@[simp] theorem IX:fG fa σ g=(fa σ g).bind fun r=>match r.1 with | .aQ n=>(r.2[n]?).bind fun xs=>some (n,(aO xs).length,r.2) | _=>none:=rfl
@[simp] theorem t_ {mk:List D->G->Option (D×G)}{fi:gi}{fr:List (Option Nat)}{t:FG}{c:FT}:gS mk fi fr t c fa σ g=(fi σ g).bind fun r=>if aD r.2.1=true then(cu r.1 r.2.1 t c fa r.2.1 (bu fr σ) r.2.2).bind fun q=>mk q.1 q.2 else none:=rfl
end
def fv (nn L:Nat)(t:FG)(b:FS):Nat->FS
 | 0,σ,g=>((g[nn]?).map aO).bind fun xs=>if xs.length=L then some (.nx,σ,g) else none
 | r+1,σ,g=>((g[nn]?).map aO).bind fun xs=>if xs.length=L then(xs[L-(r+1)]?).bind fun d=>(t d σ g).bind fun q=>(b q.1 q.2).bind fun r'=>match r'.1 with
   | .nx=>fv nn L t b r r'.2.1 r'.2.2
   | .ct=>fv nn L t b r r'.2.1 r'.2.2
   | .bk=>some (.nx,r'.2.1,r'.2.2)
   | .rt d=>some (.rt d,r'.2.1,r'.2.2)
  else none
def jH (fi:gi)(t:FG)(b:FS):FS:=fun σ g=>(fi σ g).bind fun r=>fv r.1 r.2.1 t b r.2.1 σ r.2.2
section
variable {X:Cx}{tg:Expr}{pos:Pos}
inductive rW (X:Cx)(t:FG)(b:FS)(nn L:Nat)(H1:Hp)(ι1:Ix)(r:F)(σd':Sg)(g':G)(i:Nat)(σ2:L2.St)(H2:Hp):Prop
 | mk (ι2:Ix) (σd2:Sg) (g2:G) (e2:Ext H1 ι1 H2 ι2) (G2:au X.kw H2 ι2 g2) (S2:aS X.kw H2 ι2 σd2 σ2) (hf:fv nn L t b (L-i) σd2 g2=some (r,σd',g')):rW X t b nn L H1 ι1 r σd' g' i σ2 H2
theorem zj {iter:Expr}{body:List Stmt}{fi:gi}{t:FG}{b:FS}(hp:PassesOwn (model X.prog X.w) X.A X.env X.xe)(hc:X.calm=true)(hi:xQ X tg iter fi)(hg:DG X tg t)(hb:gQ X body b)
   (hs:∀x,foldedSetIterable iter X.env x=pure x:=by intro _;rfl):DS X (.For tg iter body [] pos) (jH fi t b):=.of (PS.imp (uy hp hc hi.un hg.un hb.un hs) fun Dn σ H h=>by
 obtain⟨ι,σd,g,r,σd',g',G0,S0,h,p⟩:=h
 obtain⟨⟨nn,L,g1⟩,h1,h⟩:=bind_some h
 refine⟨ι,σd,g,nn,L,g1,G0,S0,h1,fun H1 ι1 J e1 G1 J1=>?_⟩
 dsimp only at h
 refine⟨fun i m σ2 H2=>m=L-i/\i<=L/\rW X t b nn L H1 ι1 r σd' g' i σ2 H2,
   ⟨L,by simp,Nat.zero_le _,ι1,σd,g1,Ext.refl,G1,S0.ext e1,by simpa using h⟩,?_⟩
 rintro i m σ2 H2 ⟨rfl,hi,ι2,σd2,g2,e2,G2,S2,hf⟩
 have j1:=J1 i H2 ι2 g2 e2.bV G2
 by_cases hlt:i<L
 . rw [show L-i=(L-(i+1))+1 by omega] at hf
   simp only [fv] at hf
   obtain⟨xs,hx,hf⟩:=bind_some hf
   split at hf
   . rename_i hl
     obtain⟨d0,hd0,hf⟩:=bind_some hf
     rw [show L-(L-(i+1)+1)=i by omega] at hd0
     obtain⟨⟨σ3,g3⟩,h3,hf⟩:=bind_some hf
     obtain⟨⟨r4,σ4,g4⟩,h4,hf⟩:=bind_some hf
     obtain⟨st,go⟩:=j1 xs hx hl
     obtain⟨go,yl⟩:=go d0 hd0
     refine .inr ⟨go,fun σ5 H5=>rW X t b nn L H1 ι1 r σd' g' (i+1) σ5 H5,?_,?_⟩
     . rintro σ5 H5 ⟨ι5,σd5,g5,e5,G5,S5,h5⟩
       exact⟨L-(i+1),by omega,rfl,hlt,ι5,σd5,g5,e5,G5,S5,h5⟩
     . intro x H' y
       obtain⟨e3,G3,r3⟩:=yl x H' y
       refine⟨ι2,σd2,g2,d0,σ3,g3,G3,S2.ext e3,r3,h3,fun H6 ι6 σ6 e6 G6 S6=>?_⟩
       refine⟨ι6,σ3,g3,r4,σ4,g4,G6,S6,h4,fun H7 ι7 e7 G7=>?_⟩
       have eall:=e2.trans (e3.trans (e6.trans e7))
       cases r4 with
       | nx=>exact fun σ' S7=>⟨ι7,σ4,g4,eall,G7,S7,hf⟩
       | ct=>exact fun σ' S7=>⟨ι7,σ4,g4,eall,G7,S7,hf⟩
       | bk=>cases hf;exact fun σ' S7=>p H7 ι7 (e1.trans eall) G7 σ' S7
       | rt d=>cases hf;exact fun v r7=>p H7 ι7 (e1.trans eall) G7 v r7
   . cases hf
 . have e:i=L:=by omega
   subst e
   rw [Nat.sub_self] at hf
   simp only [fv] at hf
   obtain⟨xs,hx,hf⟩:=bind_some hf
   split at hf
   . rename_i hl
     cases hf
     obtain⟨st,_⟩:=j1 xs hx hl
     exact .inl ⟨st (Nat.le_refl _),p H2 ι2 (e1.trans e2) G2 σ2 S2⟩
   . cases hf)
end
theorem vC {fi:gi}{t:FG}{b:FS}{σ:Sg}{g:G}:jH fi t b σ g=(fi σ g).bind fun r=>fv r.1 r.2.1 t b r.2.1 σ r.2.2:=rfl
def sN:Bool->String
 | true=>"list"
 | false=>"tuple"
def iN:Bool->String
 | true=>"list_iterator"
 | false=>"tuple_iterator"
def AF (κ:Bool)(h:Heap)(a:Addr)(xs:Array Value):Prop:=∃o,h.get? a=some o/\o.cls = .type (sN κ) /\ ∃n,o.data = .seq xs n
def AW (κ:Bool)(h:Heap)(j a:Addr)(i:Nat):Prop:=∃o,h.get? j=some o/\o.cls = .type (iN κ)/\o.data = .fields #[.ref a,.int i 0]
theorem AF.extBut {κ:Bool}{h h':Heap}{a b items}(x:AF κ h a items)(hs:Heap.ExtBut b h h')(hab:a≠b):AF κ h' a items:=let⟨o,ho,r⟩:=x;⟨o,hs a o hab ho,r⟩
theorem AW.at {κ:Bool}{h h':Heap}{j a i}(x:AW κ h j a i)(k:∀o,h.get? j=some o->h'.get? j=some o):AW κ h' j a i:=let⟨o,ho,r⟩:=x;⟨o,k o ho,r⟩
def nQ (K:PySem.W.Frag):Bool->Hp->Addr->List V->Prop
 | true=>cw K
 | false=>cq K
def Gj (K:PySem.W.Frag)(κ1 κ2:Bool)(a b:Addr):It :=
 ⟨fun i H=>∃xs ys x y,nQ K κ1 H a xs/\nQ K κ2 H b ys/\xs[i]? = some x/\ys[i]? = some y,fun i H x H'=>∃T v u,x = .ref T/\H T=none/\H'=upd H T (.tup [v,u]) /\ ∀xs ys,nQ K κ1 H a xs->nQ K κ2 H b ys->xs[i]? = some v/\ys[i]? = some u,
  fun i H=>∃xs ys,nQ K κ1 H a xs/\nQ K κ2 H b ys/\(xs.length<=i\/ys.length<=i)⟩
abbrev VW:=G->Option (List D)
abbrev E6:=Sg->G->Option (VW×Nat×G)
def qL (K:KW)(J:It)(H:Hp)(ι:Ix)(vw:VW)(L:Nat):Prop :=
 ∀(i:Nat) H1 ι1 g1,fz H ι H1 ι1->au K H1 ι1 g1->∀xs,vw g1=some xs->xs.length=L->(L<=i->J.stop i H1) /\ ∀d,xs[i]? = some d->J.go i H1 /\ ∀x H2,J.yld i H1 x H2->Ext H1 ι1 H2 ι1/\au K H2 ι1 g1/\Rel K H2 ι1 d x
inductive Bf (K:KW)(f:E6)(σ:L2.St)(H:Hp)(R:(It->Hp->Prop)):Prop
 | mk (ι:Ix) (σd:Sg) (g:G) (vw:VW) (L:Nat) (g':G) (h0:au K H ι g) (h1:aS K H ι σd σ) (h2:f σd g=some (vw,L,g')) (h3:∀H' ι' J,Ext H ι H' ι'->au K H' ι' g'->qL K J H' ι' vw L->R J H'):Bf K f σ H R
structure Kg (X:Cx)(tg iter:Expr)(f:E6):Prop where of ::
 un:PI X tg iter (Bf X.kw f)
def rY (vw:VW)(L:Nat)(t:FG)(b:FS):Nat->FS
 | 0,σ,g=>(vw g).bind fun xs=>if xs.length=L then some (.nx,σ,g) else none
 | r+1,σ,g=>(vw g).bind fun xs=>if xs.length=L then(xs[L-(r+1)]?).bind fun d=>(t d σ g).bind fun q=>(b q.1 q.2).bind fun r'=>match r'.1 with
   | .nx=>rY vw L t b r r'.2.1 r'.2.2
   | .ct=>rY vw L t b r r'.2.1 r'.2.2
   | .bk=>some (.nx,r'.2.1,r'.2.2)
   | .rt d=>some (.rt d,r'.2.1,r'.2.2)
  else none
section
variable {X:Cx}{tg:Expr}{pos:Pos}
inductive DD (X:Cx)(t:FG)(b:FS)(vw:VW)(L:Nat)(H1:Hp)(ι1:Ix)(r:F)(σd':Sg)(g':G)(i:Nat)(σ2:L2.St)(H2:Hp):Prop
 | mk (ι2:Ix) (σd2:Sg) (g2:G) (e2:Ext H1 ι1 H2 ι2) (G2:au X.kw H2 ι2 g2) (S2:aS X.kw H2 ι2 σd2 σ2) (hf:rY vw L t b (L-i) σd2 g2=some (r,σd',g')):DD X t b vw L H1 ι1 r σd' g' i σ2 H2
end
def u9:D->Option (Bool×VW)
 | .lst xs=>some (true,fun _=>some xs)
 | .tup xs=>some (false,fun _=>some xs)
 | .ref n=>some (true,fun g=>g[n]?)
 | _=>none
def Ha (v w:VW):VW:=fun g=>(v g).bind fun xs=>(w g).map fun ys=>jm xs ys
theorem xw {K H ι d x κ v}(r:Rel K H ι d x)(h:u9 d=some (κ,v)){H1 ι1 g1}(e:fz H ι H1 ι1)(G1:au K H1 ι1 g1){xs:List D}(hv:v g1=some xs):∃a vs,x = .ref a/\nQ K.fr κ H1 a vs/\ag K H1 ι1 xs vs:=by
 cases d with
 | lst ys =>
  cases h
  cases hv
  simp only [Rel] at r
  obtain⟨a,vs,rfl,hq,hr⟩:=r
  exact⟨a,vs,rfl,(hq.bV e).sq,ag.bV e _ hr⟩
 | tup ys =>
  cases h
  cases hv
  simp only [Rel] at r
  obtain⟨a,vs,rfl,hq,hr⟩:=r
  exact⟨a,vs,rfl,(hq.bV e).sq,ag.bV e _ hr⟩
 | ref n =>
  cases h
  simp only [Rel] at r
  obtain⟨a,rfl,ha⟩:=r
  obtain⟨vs,hH,hr⟩:=G1.at hv (e.at ha)
  exact⟨a,vs,rfl,.inl (.inl hH),hr⟩
 | _=>cases h
theorem qL.zip {K H ι a b d1 d2 κ1 κ2 v w L}(r1:Rel K H ι d1 (.ref a))(h1:u9 d1=some (κ1,v))(r2:Rel K H ι d2 (.ref b))(h2:u9 d2=some (κ2,w)):qL K (Gj K.fr κ1 κ2 a b) H ι (Ha v w) L:=fun i H1 ι1 g1 e1 G1 zs hz hl=>by
 obtain⟨xs,hx,hz⟩:=bind_some hz
 obtain⟨ys,hy,hz⟩:=Option.map_eq_some_iff.mp hz
 subst hz
 obtain⟨_,vs,e,hq,hr⟩:=xw r1 h1 e1 G1 hx
 cases e
 obtain⟨_,us,e,hq2,hr2⟩:=xw r2 h2 e1 G1 hy
 cases e
 refine⟨fun hi=>⟨vs,us,hq,hq2,by
  have hl':min xs.length ys.length=L:=by simpa [jm] using hl
  rw [<- hr.length,<- hr2.length];omega⟩,fun d hd=>?_⟩
 unfold jm at hd
 rw [List.getElem?_map] at hd
 cases hx:(xs.zip ys)[i]? with
 | none=>rw [hx] at hd;cases hd
 | some pr =>
  obtain⟨d0,d1⟩:=pr
  rw [hx] at hd
  simp only [Option.map_some,Option.some.injEq] at hd
  subst hd
  rw [List.getElem?_zip_eq_some] at hx
  obtain⟨v,hv,rv⟩:=hr.get hx.1
  obtain⟨u,hu,ru⟩:=hr2.get hx.2
  refine⟨⟨vs,us,v,u,hq,hq2,hv,hu⟩,fun x H2 y=>?_⟩
  obtain⟨T,v',u',rfl,hn,rfl,hy⟩:=y
  obtain⟨y1,y2⟩:=hy vs us hq hq2
  rw [hv] at y1
  rw [hu] at y2
  cases y1
  cases y2
  refine⟨Ext.lay hn,G1.lay hn,?_⟩
  simp only [Rel]
  refine⟨T,_,rfl,.inl ⟨.inl aR,G1.fresh hn⟩,?_⟩
  simp only [ag]
  exact⟨_,_,rfl,Rel.ext (Ext.lay hn) _ rv,_,_,rfl,Rel.ext (Ext.lay hn) _ ru,rfl⟩
end L3
namespace RI
open PySem PySem.Spec PyProof.Rows L2 L3
structure G0 where
 T:Nat->Fn
 k:Nat
 fns:List (Str×Nat×Nat)
 nms:List Str
 cns:List (Str×D)
 dcs:List (Str×List (Str×D))
structure Cs where
 N:List Str
 sc:Scope
 all:Bool
 mt:List Str
 own:List Str
inductive uD (m:G0)(X:Cx)(x:Str)(i n:Nat):Prop
 | mk (f:Addr) (fd:FuncData) (ps:List Str) (ok:cL X.prog X.w X.K X.mg X.base fM m.k f fd ps (i7 X.kw n (m.T i))) (hm:X.mg x=some (.ref f)) (kp:PySem.W.keepIn X.K (.ref f)=true) (b:Binds X.K fd ps []) (ln:∀ds g r,m.T i ds g=some r->ds.length=n):uD m X x i n
structure Gd (m:G0)(c:Cs)(X:Cx):Prop where
 hN:X.N=c.N
 hs:X.env.scope=c.sc
 nd:c.N.Nodup
 xe:X.xe=fun _ _=>False
 cm:X.calm=true
 rm:aC m.k X.A
 al:c.all=true->∀x,X.fn x=true
 ow:∀x∈c.own,X.fn x=true
 fn:∀x i n,(x,i,n)∈m.fns->uD m X x i n
 bl:∀x∈m.nms,X.mg x=none
 cn:∀x d,(x,d)∈m.cns->∃v u,X.mg x=some u/\RelV v u /\ ∀K H ι,Rel K H ι d v
 dc:∀x t,(x,t)∈m.dcs->∃a,X.mg x=some (.ref a)/\mV X.w X.kw a t
def i8:FT:=fun _ _=>none
def kP:FA:=fun _ _=>none
def cC:FS:=fun _ _=>none
def iS:FI:=fun _ _=>none
def kg:FG:=fun _ _ _=>none
section
variable {X:Cx}
theorem lU {e:Expr}:DT X e i8:=.of (fun pins s σ H Q I h=>by obtain⟨_,_,_,_,_,_,_,h,_⟩:=h;cases h)
theorem lJ {es:List Expr}:DA X es kP:=.of (fun _ pins s σ H Q I h=>by obtain⟨_,_,_,_,_,_,_,h,_⟩:=h;cases h)
theorem b9 {e:Stmt}:DS X e cC:=.of (fun pins s σ H Q I h=>by obtain⟨_,_,_,_,_,_,_,_,h,_⟩:=h;cases h)
theorem js {tg e:Expr}:DI X tg e iS:=.of (fun pins s σ H Q I h=>by obtain⟨_,_,_,_,_,_,_,h,_⟩:=h;cases h)
theorem fg {e:Expr}:DG X e kg:=.of (fun pins s σ H v u Q I r h=>by obtain⟨_,_,_,_,_,_,_,_,_,h,_⟩:=h;cases h)
end
def isStar:Expr->Bool
 | .Starred ..=>true
 | _=>false
def isSet:Expr->Bool
 | .Set ..=>true
 | _=>false
def qF:Expr->Bool
 | .Slice ..=>true
 | _=>false
def kj:Expr->Bool
 | .ListComp ..=>true
 | .SetComp ..=>true
 | .DictComp ..=>true
 | _=>false
def DN:Expr->Bool
 | .List ..=>true
 | _=>false
def kf:Expr->Bool
 | .Tuple ..=>true
 | _=>false
def qh:Expr->Bool
 | .Call (.Name _ _) [] [] _=>true
 | _=>false
def nX:Expr->Bool
 | .UnaryOp .Not _ _=>false
 | .BoolOp ..=>false
 | .IfExp ..=>false
 | .Compare ..=>false
 | _=>true
def D6:Expr->Bool
 | .Name ..=>true
 | .Subscript ..=>true
 | .Constant ..=>true
 | _=>false
theorem bw {e:Expr}{es:List Expr}{env:Env}(h:isStar e=false):starEach (e::es) env=(false,eval e env)::starEach es env:=by
 cases e<;>first | rfl | cases h
theorem marks {op:CmpOp}{e:Expr}(h:isSet e=false):behindInMarks op e=false:=by
 cases e<;>first | rfl | cases h
theorem plainT {e:Expr}{env:Env}(h:nX e=true):∀whole,isTrue e env whole=(do let v <- whole;standAt e.pos;holding [v] (truthy v)):=by
 intro whole
 cases e with
 | UnaryOp op a p=>cases op<;>first | rfl | cases h
 | _=>first | rfl | cases h
theorem yf {e:Expr}(h:qF e=false):lI e:=by
 intro o i
 cases e<;>first | rfl | cases h
theorem baseOk {e:Expr}{x:Str}{env:Env}(h:qh e=false):attributeBase e x env (eval e env)=eval e env:=by
 unfold attributeBase
 split
 . cases h
 . rfl
theorem ng {e:Expr}{t:Option Expr}{l:Nat}{env:Env}(h:kj e=false):swapsWith e t l env=pure false:=by
 cases e<;>first | rfl | cases h
theorem jw {e:Expr}{env:Env}(h:isSet e=false):∀x,foldedSetIterable e env x=pure x:=by
 intro x
 cases e<;>first | rfl | cases h
theorem gX {es:List Expr}{env:Env}{pos:Pos}(h:es.any isStar=false):(backTo pos (starEach es env)).any (·.1)=false:=by
 induction es with
 | nil=>rfl
 | cons e es ih =>
  rw [List.any_cons,Bool.or_eq_false_iff] at h
  rw [bw h.1]
  show(false||(backTo pos (starEach es env)).any (·.1))=false
  rw [ih h.2];rfl
theorem vI {es:List Expr}{env:Env}{pos:Pos}(h:es.any isStar=false):(backTo pos (starEach es env)).all (fun x=>!x.1)=true:=by
 induction es with
 | nil=>rfl
 | cons e es ih =>
  rw [List.any_cons,Bool.or_eq_false_iff] at h
  rw [bw h.1]
  show(true&&(backTo pos (starEach es env)).all (fun x=>!x.1))=true
  rw [ih h.2];rfl
def fE:List Str->Str->Option Nat
 | [],_=>none
 | y::N,x=>if y == x then some 0 else(fE N x).map (· + 1)
theorem cY:∀{N:List Str} {x:Str} {i:Nat},fE N x=some i->N[i]? = some x
 | [],_,_,h=>by cases h
 | y::N,x,i,h=>by
  unfold fE at h
  split at h
  . rename_i e
    cases h
    simp [eq_of_beq e]
  . obtain⟨j,hj,rfl⟩:=Option.map_eq_some_iff.mp h
    simpa using cY hj
theorem lookup_mem {α:Type}:∀{l:List (Str×α)} {x:Str} {a:α},l.lookup x=some a->(x,a)∈l
 | [],_,_,h=>by cases h
 | (y,b)::l,x,a,h=>by
  rw [List.lookup_cons] at h
  split at h
  . rename_i e
    cases h
    rw [eq_of_beq e];exact List.mem_cons_self
  . exact List.mem_cons_of_mem _ (lookup_mem h)
def ju (x:Str):Bool:=x == ("__debug__":Str)||x == ("__classdict__":Str)||x == ("__name__":Str)
theorem tF {x:Str}(h:ju x=false):(x == ("__debug__":Str))=false/\(x == ("__classdict__":Str))=false/\x ≠ "__name__":=by
 simp only [ju,Bool.or_eq_false_iff] at h
 exact⟨h.1.1,h.1.2,fun e=>by have:=h.2;rw [e] at this;simp at this⟩
structure fu where
 nm:Str
 fn:Fn
 ok:∀{X:Cx} {k:Nat},aC k X.A->X.calm=true->(∃id,ck X (.builtin id) (gD X.kw fn)/\bootBuiltins nm=some (.builtin id))\/(∃T,ck X (.type T) (gD X.kw fn)/\bootBuiltins nm=some (.type T))
structure qG where
 nm:Str
 isT:D->Bool
 m:D->List D->G->Option (D×G)
 ok:∀{X:Cx} {k:Nat},aC k X.A->∃T id,MR X T nm id isT m
def aE (E:Expr->FE):List Expr->FA
 | []=>aj
 | e::es=>if isStar e then kP else aa (E e) (aE E es)
structure mS where
 nm:Str
 tup:Bool
 f:(Expr->FE)->List Expr->FI
 ok:∀{X:Cx} {k:Nat} {E:Expr->FE} {tg:Expr} {as:List Expr} {p pos:Pos},aC k X.A->X.calm=true->X.mg nm=none->Gl X nm->(∀e,DE X e (E e))->as.any isStar=false->(tup=true->kf tg=true)->DI X tg (.Call (.Name nm p) as [] pos) (f E as)
structure kL where
 e:G0->Cs->(Expr->FE)->Bool->Expr->Option FE
 eok:∀{m:G0} {c:Cs} {X:Cx} {E:Expr->FE},Gd m c X->(∀e,DE X e (E e))->∀{rf x f},e m c E rf x=some f->DE X x f
 t:G0->Cs->(Expr->FE)->Expr->Option FT
 tok:∀{m:G0} {c:Cs} {X:Cx} {E:Expr->FE},Gd m c X->(∀e,DE X e (E e))->∀{x f},t m c E x=some f->DT X x f
structure Pk where
 bl:List fu
 br:List fu
 mt:List qG
 it:List mS
 xr:List kL
def t7:Const->FE
 | .int i=>fC (.int i)
 | .str x=>fC (.str x)
 | .bool b=>fC (.bl b)
 | .none=>fC .non
 | _=>bK
def xb:Option NameKind->Bool
 | some .local=>true
 | some .cell=>true
 | some .free=>true
 | _=>false
def eName (m:G0)(c:Cs)(x:Str):FE :=
 if ju x then bK else
 match xb (c.sc.names.lookup x),fE c.N x with
 | true,some i=>af i
 | true,none=>bK
 | false,_=>if c.sc.names.lookup x=some .globalImplicit then(match m.cns.lookup x with | some d=>fC d | none=>match m.fns.lookup x with | some _=>fC (.fn x) | none=>bK) else bK
def Cm (op:Operator)(rf ls:Bool)(fa fb:FE):FE:=match op with
 | .Add=>ao aM fa fb
 | .Sub=>ao (aK aW (· - ·)) fa fb
 | .Mult=>ao bS fa fb
 | .FloorDiv=>ao (aK dF (· / ·)) fa fb
 | .Mod=>ao (aK cb (· % ·)) fa fb
 | .Pow=>ao (aK bY (fun i j=>i ^ j.toNat)) fa fb
 | .LShift=>ao (aK bY (fun i j=>i*2 ^ j.toNat)) fa fb
 | .BitAnd=>ao (aK aW Builtin.bitAnd) fa fb
 | .BitOr=>ao (aK aW Builtin.bitOr) fa fb
 | _=>bK
def FK (op:UnaryOp)(fa:FE):FE:=match op with
 | .USub=>hX fj fa
 | .Not=>kA fa
 | _=>bK
def bE (E:Expr->FE)(g:Bool)(op:BoolOp):List Expr->FE
 | []=>bK
 | [a]=>E a
 | a::b::r=>match op with
  | .And=>cT (E a) (bE E g .And (b::r))
  | .Or=>i6 (E a) (bE E g .Or (b::r))
def wI:CmpOp->D->D->G->Option (D×G)
 | .Lt=>oLt
 | .LtE=>oLe
 | .Gt=>qf
 | .GtE=>tR
 | .Eq=>oEq
 | .NotEq=>cX
 | .Is=>me
 | .IsNot=>cU
 | .In=>ik
 | .NotIn=>hZ
def lr (E:Expr->FE)(l:Expr):List CmpOp->List Expr->FE
 | [op],[b]=>if isSet b then bK else ao (wI op) (E l) (E b)
 | [op,op'],[b,d]=>if isSet d then bK else eM (wI op) (wI op') (E l) (E b) (E d)
 | _,_=>bK
def pE (E:Expr->FE):Option Expr->FO
 | none=>cA
 | some e=>bQ (E e)
def vW (E:Expr->FE)(v:Expr):Expr->FE
 | .Slice lo hi none _=>cz (E v) (pE E lo) (pE E hi)
 | .Slice lo hi (some st) _=>bK
 | s=>ao aw (E v) (E s)
def qW (m:G0)(P:Pk)(c:Cs)(rf:Bool)(E:Expr->FE)(f:Expr)(as:List Expr)(pos:Pos):FE:=match f with
 | .Name x _=>if ju x||as.any isStar then bK else if c.sc.names.lookup x=some .globalImplicit then
   (match m.fns.lookup x with
   | some (i,_)=>aq (m.T i) (aE E as)
   | none=>if as.isEmpty || !(m.nms.elem x) then bK else match(if rf then P.br else P.bl).find? (fun r=>r.nm == x) with
    | some r=>aq r.fn (aE E as)
    | none=>bK)
  else bK
 | .Attribute o x ap=>if qh o||as.any isStar || !(ap.endLine == pos.line) || !(decide (as.length<29)) then bK else match P.mt.find? (fun r=>r.nm == x) with
  | some r=>dP r.isT r.m (E o) (aE E as)
  | none=>bK
 | _=>bK
section
variable {m:G0}{c:Cs}{X:Cx}{E:Expr->FE}
theorem Gd.hu (g:Gd m c X):X.A.units+64<cLine:=g.rm.units
theorem Gd.gl (g:Gd m c X){x:Str}(h:c.sc.names.lookup x=some .globalImplicit):Gl X x:=by
 show X.env.scope.names.lookup x=_
 rw [g.hs];exact h
theorem dX (hE:∀e,DE X e (E e)):∀es:List Expr,DA X es (aE E es)
 | []=>nO
 | e::es=>by
  unfold aE
  split
  . exact lJ
  . rename_i h
    exact jE (hE e) (dX hE es) (bw (by simpa using h))
theorem uc {v:Const}{j:Nat}{p:Pos}:DE X (.Constant v j p) (t7 v):=by
 cases v with
 | int i=>exact CH
 | str x=>exact z6
 | bool b=>exact EM
 | none=>exact BH
 | _=>exact bz
theorem vq (g:Gd m c X){x:Str}{p:Pos}:DE X (.Name x p) (eName m c x):=by
 unfold eName
 split
 . exact bz
 rename_i ho
 obtain⟨o1,o2,_⟩:=tF (by simpa using ho)
 split
 . rename_i i hv hi
   refine AZ i (by rw [g.hN];exact cY hi) ?_ o1 o2
   rw [g.hs]
   unfold xb at hv
   split at hv
   . rename_i e;exact .inl e
   . rename_i e;exact .inr (.inl e)
   . rename_i e;exact .inr (.inr e)
   . cases hv
 . exact bz
 . split
   . rename_i hg
     split
     . rename_i d hd
       obtain⟨v,u,h1,h2,h3⟩:=g.cn x d (lookup_mem hd)
       exact yc (g.gl hg) h1 h2 h3 o1
     . split
       . rename_i y hy
         obtain⟨i,n⟩:=y
         obtain⟨f,fd,ps,_,hm,_⟩:=g.fn x i n (lookup_mem hy)
         exact .of (PE.imp (p9 (v:=.ref f) (g.gl hg) hm rfl o1) fun σ H Q h=>by
          obtain⟨ι,σd,g1,d,g',G0,S0,h,p⟩:=h
          cases h
          exact p H ι _ Ext.refl G0 (by simp only [Rel];exact⟨f,rfl,hm⟩))
       . exact bz
   . exact bz
theorem zN {op:Operator}{rf ls:Bool}{a b:Expr}{p:Pos}{fa fb:FE}(ha:DE X a fa)(hb:DE X b fb):DE X (.BinOp a op b p) (Cm op rf ls fa fb):=by
 cases op<;>first | exact bz | skip
 . exact fQ BK ha hb
 . exact fQ Bc ha hb
 . exact fQ AY ha hb
 . exact fQ BJ ha hb
 . exact fQ CA ha hb
 . exact fQ Bw ha hb
 . exact fQ DH ha hb
 . exact fQ AD ha hb
 . exact fQ yI ha hb
theorem An {op:UnaryOp}{a:Expr}{p:Pos}{fa:FE}(ha:DE X a fa):DE X (.UnaryOp op a p) (FK op fa):=by
 cases op with
 | USub=>exact DU CP ha
 | Not=>exact C4 ha
 | _=>exact bz
theorem xA (hE:∀e,DE X e (E e)){gf:Bool}{op:BoolOp}{p:Pos}:∀es:List Expr,DE X (.BoolOp op es p) (bE E gf op es)
 | []=>bz
 | [a]=>Ah (hE a)
 | a::b::r=>by
  have ih:=xA hE (gf:=gf) (op:=op) (p:=p) (b::r)
  cases op<;>cases gf
  . exact tT (hE a) ih
  . exact tT (hE a) ih
  . exact wF (hE a) ih
  . exact wF (hE a) ih
theorem h_ (hu:X.A.units+64<cLine):∀op:CmpOp,aT X (compareOp op) (bU X.kw (wI op))
 | .Lt=>DC
 | .LtE=>Dx
 | .Gt=>EH
 | .GtE=>EC
 | .Eq=>Eh hu
 | .NotEq=>CU hu
 | .Is=>Em
 | .IsNot=>yu
 | .In=>Br hu
 | .NotIn=>sH hu
theorem ym (hu:X.A.units+64<cLine)(hE:∀e,DE X e (E e)){l:Expr}{ops:List CmpOp}{rs:List Expr}{p:Pos}:DE X (.Compare l ops rs p) (lr E l ops rs):=by
 unfold lr
 split
 . split
   . exact bz
   . rename_i h
     exact Ao (h_ hu _) (hE _) (hE _) (marks (by simpa using h))
 . split
   . exact bz
   . rename_i h
     exact we (h_ hu _) (h_ hu _) (hE _) (hE _) (hE _) (by show behindInMarks _ _=false;exact marks (by simpa using h))
 . exact bz
theorem yL (hu:X.A.units+64<cLine)(hE:∀e,DE X e (E e)){l:Expr}{ops:List CmpOp}{rs:List Expr}{p:Pos}:DT X (.Compare l ops rs p) (aH (lr E l ops rs)):=by
 have none_:DT X (.Compare l ops rs p) (aH bK):=.of (fun pins s σ H Q I h=>by obtain⟨_,_,_,_,_,_,_,h,_⟩:=h;cases h)
 unfold lr
 split
 . split
   . exact none_
   . rename_i h
     exact Cj (h_ hu _) (hE _) (hE _) (marks (by simpa using h))
 . split
   . exact none_
   . rename_i h
     exact vx (h_ hu _) (h_ hu _) (hE _) (hE _) (hE _) (by show behindInMarks _ _=false;exact marks (by simpa using h))
 . exact none_
theorem xn (hE:∀e,DE X e (E e)):∀o:Option Expr,DO X o (pE E o)
 | none=>zL
 | some e=>zQ (hE e)
theorem yS (hu:X.A.units+64<cLine)(hE:∀e,DE X e (E e)){v s:Expr}{p:Pos}:DE X (.Subscript v s p) (vW E v s):=by
 unfold vW
 split
 . exact uK (hE _) (xn hE _) (xn hE _)
 . exact bz
 . rename_i h1 h2
   refine Bp hu (hE _) (hE _) (yf ?_)
   cases s with
   | Slice lo hi st q =>
    cases st with
    | none=>exact absurd rfl (h1 _ _ _)
    | some e=>exact absurd rfl (h2 _ _ _ _)
   | _=>rfl
theorem vk (P:Pk){rf:Bool}(g:Gd m c X)(hE:∀e,DE X e (E e)){f:Expr}{as:List Expr}{pos:Pos}:DE X (.Call f as [] pos) (qW m P c rf E f as pos):=by
 unfold qW
 split
 . rename_i x p
   split
   . exact bz
   rename_i h
   simp only [Bool.or_eq_true,not_or,Bool.not_eq_true] at h
   obtain⟨o1,o2,o3⟩:=tF h.1
   have hst:=h.2
   split
   . rename_i hg
     split
     . rename_i i n hf
       obtain⟨fa,fd,ps,ok,hm,kp,b,ln⟩:=g.fn x i n (lookup_mem hf)
       cases as with
       | nil=>exact u6 ok g.rm hm kp b ln (g.gl hg) o1
       | cons e es =>
         rw [List.any_cons,Bool.or_eq_false_iff] at hst
         exact zu ok g.rm hm kp b ln (dX hE _) (g.gl hg) o1 (bw hst.1) (gX hst.2)
     . split
       . exact bz
       rename_i hb
       simp only [Bool.or_eq_true,not_or,Bool.not_eq_true,Bool.not_eq_false',Bool.not_eq_true'] at hb
       split
       . rename_i r hr
         have hn:r.nm=x:=by have:=List.find?_some hr;exact eq_of_beq this
         have hx:x∈m.nms:=List.elem_iff.mp (by simpa using hb.2)
         cases as with
         | nil=>simp at hb
         | cons e es =>
          rw [List.any_cons,Bool.or_eq_false_iff] at hst
          rcases r.ok g.rm g.cm with⟨id,h1,h2⟩ | ⟨T,h1,h2⟩
          . rw [hn] at h2
            exact va h1 (g.bl x hx) h2 (dX hE _) (g.gl hg) o3 o1 (bw hst.1) (gX hst.2)
          . rw [hn] at h2
            exact tI h1 (g.bl x hx) h2 (dX hE _) (g.gl hg) o3 o1 (bw hst.1) (gX hst.2)
       . exact bz
   . exact bz
 . rename_i o x ap
   split
   . exact bz
   rename_i h
   simp only [Bool.or_eq_true,not_or,Bool.not_eq_true,Bool.not_eq_true',Bool.not_eq_false',decide_eq_false_iff_not,Classical.not_not] at h
   obtain⟨⟨⟨h1,h2⟩,h3⟩,h4⟩:=h
   split
   . rename_i r hr
     have hn:r.nm=x:=by have:=List.find?_some hr;exact eq_of_beq this
     obtain⟨T,id,R⟩:=r.ok g.rm
     rw [hn] at R
     cases as with
     | nil=>exact zK R (hE o) (baseOk h1) (by simpa using h3)
     | cons e es =>
       rw [List.any_cons,Bool.or_eq_false_iff] at h2
       refine Ck R (hE o) (dX hE _) (baseOk h1) ?_ (by simpa using h3) (bw h2.1) (gX h2.2)
       rw [vI (by rw [List.any_cons,h2.1,h2.2];rfl)]
       have h5:decide ((e::es).length+([]:List Keyword).length+(if([]:List Keyword).isEmpty then 0 else 1)<30)=true:=by simp at h4 ⊢;omega
       rw [h5];rfl
   . exact bz
 . exact bz
end
def oV (c:Cs)(x:Str):Option Nat:=match c.sc.names.lookup x with
 | some .local=>fE c.N x
 | some .cell=>if c.all||c.own.elem x then fE c.N x else none
 | _=>none
def wd (f:Expr->FG):List Expr->jP
 | []=>aY
 | e::es=>ax (f e) (wd f es)
def gm (c:Cs)(E:Expr->FE):Nat->Expr->FG
 | _,.Name x _=>match oV c x with | some i=>gN i | none=>kg
 | _,.Subscript o i _=>if qF i then kg else f7 (E o) (E i)
 | n+1,.Tuple es _ _=>if es.any isStar then kg else gT es.length (wd (gm c E n) es)
 | _,_=>kg
section
variable {m:G0}{c:Cs}{X:Cx}{E:Expr->FE}
theorem jy (g:Gd m c X){x:Str}{i:Nat}(h:oV c x=some i):X.N[i]? = some x/\Loc X.env.scope x/\(X.fn x=true\/X.env.scope.names.lookup x=some .local):=by
 unfold oV at h
 rw [g.hN,g.hs]
 split at h
 . rename_i e;exact⟨cY h,.inl e,.inr e⟩
 . rename_i e
   split at h
   . rename_i ha
     rw [Bool.or_eq_true] at ha
     exact⟨cY h,.inr e,.inl (ha.elim (fun ha=>g.al ha x) fun ha=>g.ow x (List.elem_iff.mp ha))⟩
   . cases h
 . cases h
theorem Gd.m_ (g:Gd m c X):X.N.Nodup:=by rw [g.hN];exact g.nd
theorem j3 {e:Expr}{es:List Expr}{env:Env}(h:isStar e=false):assignEach (e::es) env=(false,assign e env)::assignEach es env:=by
 cases e<;>first | rfl | cases h
theorem pV {es:List Expr}{env:Env}(h:es.any isStar=false):(assignEach es env).length=es.length/\(assignEach es env).findIdx? (·.1)=none:=by
 induction es with
 | nil=>exact⟨rfl,rfl⟩
 | cons e es ih =>
  rw [List.any_cons,Bool.or_eq_false_iff] at h
  obtain⟨a,b⟩:=ih h.2
  rw [j3 h.1]
  exact⟨by simp [a],by rw [List.findIdx?_cons,b];rfl⟩
theorem qc {o i:Expr}{pos:Pos}{env:Env}(h:qF i=false):∀v,assign (.Subscript o i pos) env v=(do
  let ov <- holding [v] (eval o env)
  let iv <- holding [v,ov] (eval i env)
  standAt pos
  holding [v,ov,iv] (setItem ov iv v)
  release [v,ov,iv] []):=by
 intro v
 cases i<;>first | rfl | cases h
theorem gR (g:Gd m c X)(hE:∀e,DE X e (E e)):∀(n:Nat) (e:Expr),DG X e (gm c E n e):=by
 intro n
 induction n with
 | zero =>
  intro e
  unfold gm
  split
  . split
    . rename_i i h;obtain⟨a,b,d⟩:=jy g h;exact pH g.m_ a b d
    . exact fg
  . split
    . exact fg
    . rename_i h;exact pR g.hu (hE _) (hE _) (qc (by simpa using h))
  . rename_i h;cases h
  . exact fg
 | succ n ih =>
  intro e
  unfold gm
  split
  . split
    . rename_i i h;obtain⟨a,b,d⟩:=jy g h;exact pH g.m_ a b d
    . exact fg
  . split
    . exact fg
    . rename_i h;exact pR g.hu (hE _) (hE _) (qc (by simpa using h))
  . rename_i n' es kt tp hn
    cases hn
    split
    . exact fg
    . rename_i hs
      have hs:es.any isStar=false:=by simpa using hs
      have hg:∀es:List Expr,es.any isStar=false->uu X es (wd (gm c E n) es):=fun es=>by
       induction es with
       | nil=>exact fun _=>x_
       | cons e es ih2 =>
        intro h
        rw [List.any_cons,Bool.or_eq_false_iff] at h
        exact vd (ih e) (ih2 h.2) (by rw [j3 h.1];rfl)
      have hg:=hg es hs
      exact Bm g.cm hg (pV hs).1 (pV hs).2
  . exact fg
end
def tM (m:G0)(P:Pk)(c:Cs)(E:Expr->FE)(tg:Expr)(it:Expr):FI:=match it with
 | .Call (.Name x _) as [] _=>if c.sc.names.lookup x=some .globalImplicit then(match P.it.find? (fun r=>r.nm == x) with
  | some r=>if m.nms.elem x && !(as.any isStar)&&(!r.tup||kf tg) then r.f E as else iS
  | none=>bW (E it)) else bW (E it)
 | it=>bW (E it)
theorem nD {m:G0}{c:Cs}{X:Cx}{E:Expr->FE}(P:Pk)(g:Gd m c X)(hE:∀e,DE X e (E e)){tg it:Expr}:DI X tg it (tM m P c E tg it):=by
 unfold tM
 split
 . rename_i x p as pos
   split
   . rename_i hg
     split
     . rename_i r hr
       have hn:r.nm=x:=by have:=List.find?_some hr;exact eq_of_beq this
       split
       . rename_i h
         simp only [Bool.and_eq_true,Bool.or_eq_true,Bool.not_eq_true',beq_iff_eq] at h
         obtain⟨⟨h1,h2⟩,h4⟩:=h
         have hx:x∈m.nms:=List.elem_iff.mp h1
         subst hn
         exact r.ok g.rm g.cm (g.bl _ hx) (g.gl hg) hE h2 (fun z=>by rcases h4 with h4 | h4;(rw [z] at h4;cases h4);exact h4)
       . exact js
     . exact oK (hE _)
   . exact oK (hE _)
 . exact oK (hE _)
def AI (sc:Scope)(S:Scope):Scope:={ sc with names:=sc.names.map fun(n,k)=>if(k == .free&&S.kind == .function&&S.names.lookup n == some .cell) then(n,.cell) else(n,k) }
def p5:List Str->Bool
 | []=>true
 | x::r=>!(r.elem x)&&p5 r
theorem ox:∀{l:List Str},p5 l=true->l.Nodup
 | [],_=>List.nodup_nil
 | x::r,h=>by
  simp only [p5,Bool.and_eq_true,Bool.not_eq_true'] at h
  exact List.nodup_cons.mpr (And.intro (fun z=>(by rw [List.elem_iff.mpr z] at h;exact absurd h.1 (by simp))) (ox h.2))
def gL (sc:Scope):List Str:=(sc.names.filter fun y=>y.2 == .local||y.2 == .cell).map (·.1)
def DY (sc:Scope):List Str:=(sc.names.filter fun y=>y.2 == .cell).map (·.1)
def fq (sc:Scope):List Str:=(sc.names.filter fun y=>y.2 == .free).map (·.1)
def cS (c:Cs)(sc:Scope):Cs:=⟨gL sc++fq sc,AI sc c.sc,false,c.mt,DY sc⟩
def lZ (c:Cs)(sc:Scope):List (Option Nat):=(gL sc).map (fun _=>none)++(fq sc).map (fun x=>fE c.N x)
def si (c:Cs)(sc:Scope):Bool:=lN c.sc c.N (gL sc++fq sc) (lZ c sc) sc&&p5 (gL sc++fq sc)
def pP (T:Expr->FT):List Expr->FT
 | []=>bq
 | [t]=>T t
 | _=>i8
def Df (c:Cs):Expr->Bool
 | .Name x _=>c.mt.elem x
 | _=>false
def t9 (c:Cs):Expr->Bool
 | .Name x _=>c.mt.elem (Str.ofString "*" ++ x)
 | _=>false
def mZ (m:G0)(P:Pk)(c:Cs)(rf:Bool)(E:Cs->Expr->FE)(T:Cs->Expr->FT)(elt:Expr)(gs:List Comprehension)(sc:Scope):FE:=match gs with
 | [⟨tg,it,ifs,0⟩]=>if si c sc && !(isSet it) then
  (if t9 c it then(if rf then bK else gS bB (fG (E c it)) (lZ c sc) (gm (cS c sc) (E (cS c sc)) 3 tg) (pP (T (cS c sc)) ifs) (E (cS c sc) elt))
  else if Df c it then oj bB (vZ (E c it)) (lZ c sc) (gm (cS c sc) (E (cS c sc)) 3 tg) (pP (T (cS c sc)) ifs) (E (cS c sc) elt)
  else bA bB (tM m P c (E c) tg it) (lZ c sc) (gm (cS c sc) (E (cS c sc)) 3 tg) (pP (T (cS c sc)) ifs) (E (cS c sc) elt)) else bK
 | _=>bK
section
variable {m:G0}{c:Cs}{X:Cx}
theorem Gd.comp (g:Gd m c X){sc:Scope}(h:p5 (gL sc++fq sc)=true){C:Addr}{s3:Shared}{H:Hp}{fp:List Addr}{pins:List (Addr×Obj)}:Gd m (cS c sc) (aV X (gL sc++fq sc) sc C s3 H fp pins) where
 hN:=rfl
 hs:=by
  show relabel sc X.env=AI sc c.sc
  rw [<- g.hs];rfl
 nd:=ox h
 xe:=rfl
 cm:=g.cm
 rm:=g.rm
 al:=fun z=>by cases z
 ow:=fun x hx=>by
  show(sc.names.any fun y=>y.1 == x&&y.2 == .cell)=true
  obtain⟨y,hy,e⟩:=List.mem_map.mp (show x∈(sc.names.filter fun y=>y.2 == .cell).map (·.1) from hx)
  rw [List.mem_filter] at hy
  rw [List.any_eq_true]
  exact⟨y,hy.1,by rw [e,hy.2];simp⟩
 fn:=fun x i n hm=>by
  obtain⟨f,fd,ps,a,b,d,e,l⟩:=g.fn x i n hm
  exact⟨f,fd,ps,a,b,d,e,l⟩
 bl:=g.bl
 cn:=g.cn
 dc:=g.dc
theorem Ci {T:Expr->FT}(hT:∀e,DT X e (T e)):∀ifs:List Expr,dZ X ifs (pP T ifs)
 | []=>wg
 | [t]=>vt (hT t)
 | _::_::_=>.of (fun pins s σ H Q I h=>by obtain⟨_,_,_,_,_,_,_,h,_⟩:=h;cases h)
theorem p_ (g:Gd m c X){E:Cs->Expr->FE}{T:Cs->Expr->FT}(hE:∀c X,Gd m c X->∀e,DE X e (E c e))(hT:∀c X,Gd m c X->∀e,DT X e (T c e)){sc:Scope}(h:si c sc=true){tg elt:Expr}{ifs:List Expr} :
  du X (gL sc++fq sc) (lZ c sc) sc /\ ∀C s3 H fp pins,DG (aV X (gL sc++fq sc) sc C s3 H fp pins) tg (gm (cS c sc) (E (cS c sc)) 3 tg) /\
   dZ (aV X (gL sc++fq sc) sc C s3 H fp pins) ifs (pP (T (cS c sc)) ifs)/\DE (aV X (gL sc++fq sc) sc C s3 H fp pins) elt (E (cS c sc) elt):=by
 simp only [si,Bool.and_eq_true] at h
 refine⟨uN g.hs g.hN h.1,fun C s3 H fp pins=>?_⟩
 have g':=g.comp h.2 (C:=C) (s3:=s3) (H:=H) (fp:=fp) (pins:=pins)
 exact⟨gR g' (hE _ _ g') 3 tg,Ci (hT _ _ g') ifs,hE _ _ g' elt⟩
theorem oI (P:Pk)(g:Gd m c X){rf:Bool}{E:Cs->Expr->FE}{T:Cs->Expr->FT}(hE:∀c X,Gd m c X->∀e,DE X e (E c e))(hT:∀c X,Gd m c X->∀e,DT X e (T c e)){elt:Expr}{gs:List Comprehension}{sc:Scope}{p:Pos} :
   DE X (.ListComp elt gs sc p) (mZ m P c rf E T elt gs sc):=by
 unfold mZ
 split
 . rename_i tg it ifs
   split
   . rename_i h
     simp only [Bool.and_eq_true,Bool.not_eq_true'] at h
     obtain⟨ok,hin⟩:=p_ g hE hT h.1 (tg:=tg) (elt:=elt) (ifs:=ifs)
     split
     . split
       . exact bz
       . exact vT g.xe g.cm ok (pB (hE c X g it)) hin (jw h.2)
     split
     . exact wt g.xe g.cm ok (yw (hE c X g it)) hin (jw h.2)
     . exact x4 g.xe g.cm ok (nD P g (hE c X g)) hin (jw h.2)
   . exact bz
 . exact bz
end
def tB (T:Expr->FT)(op:BoolOp):List Expr->FT
 | []=>i8
 | [a]=>T a
 | a::b::r=>match op with
  | .And=>eY (T a) (tB T .And (b::r))
  | .Or=>gZ (T a) (tB T .Or (b::r))
def xE (P:Pk)(m:G0)(c:Cs)(E:Expr->FE)(rf:Bool)(e:Expr):Option FE:=P.xr.findSome? fun r=>r.e m c E rf e
def xT (P:Pk)(m:G0)(c:Cs)(E:Expr->FE)(e:Expr):Option FT:=P.xr.findSome? fun r=>r.t m c E e
def xu (m:G0)(P:Pk)(E:Cs->Bool->Expr->FE)(T:Cs->Expr->FT)(c:Cs)(rf:Bool):Expr->FE
 | .Constant v _ _=>t7 v
 | .Name x _=>eName m c x
 | .BinOp a op b _=>Cm op rf (DN a) (E c false a) (E c false b)
 | .UnaryOp op a _=>FK op (E c false a)
 | .BoolOp op vs _=>bE (E c false) (vs.dropLast.any D6) op vs
 | .IfExp t a b _=>uS (T c t) (E c rf a) (E c rf b)
 | .Compare l ops rs _=>lr (E c false) l ops rs
 | .Tuple es _ _=>aN aG (aE (E c false) es)
 | .List es _=>aN (if rf then mkRef else cZ) (aE (E c false) es)
 | .Dict [] [] _=>if rf then ku else fC .edc
 | .Subscript v s _=>vW (E c false) v s
 | .Call f as [] pos=>qW m P c rf (E c false) f as pos
 | .ListComp elt gs sc _=>mZ m P c rf (fun c e=>E c false e) T elt gs sc
 | _=>bK
def xl (m:G0)(P:Pk)(E:Cs->Bool->Expr->FE)(T:Cs->Expr->FT)(c:Cs):Expr->FT
 | .Compare l ops rs _=>aH (lr (E c false) l ops rs)
 | .UnaryOp .Not a _=>cy (T c a)
 | .BoolOp op vs _=>tB (T c) op vs
 | e=>if nX e then bO (E c false e) else i8
def rM (m:G0)(P:Pk)(E:Cs->Bool->Expr->FE)(T:Cs->Expr->FT)(c:Cs)(rf:Bool)(e:Expr):FE:=match xE P m c (E c false) rf e with
 | some f=>f
 | none=>xu m P E T c rf e
def stepT (m:G0)(P:Pk)(E:Cs->Bool->Expr->FE)(T:Cs->Expr->FT)(c:Cs)(e:Expr):FT:=match xT P m c (E c false) e with
 | some f=>f
 | none=>xl m P E T c e
def iv (m:G0)(P:Pk):Nat->(Cs->Bool->Expr->FE)×(Cs->Expr->FT)
 | 0=>(fun _ _ _=>bK,fun _ _=>i8)
 | n+1=>(rM m P (iv m P n).1 (iv m P n).2,stepT m P (iv m P n).1 (iv m P n).2)
section
variable {m:G0}{X:Cx}
theorem gz {α β:Type}{f:α->Option β}:∀{l:List α} {b:β},l.findSome? f=some b->∃a∈l,f a=some b
 | [],_,h=>by cases h
 | a::l,b,h=>by
  rw [List.findSome?_cons] at h
  cases ha:f a with
  | none=>rw [ha] at h;obtain⟨x,hx,e⟩:=gz h;exact⟨x,List.mem_cons_of_mem _ hx,e⟩
  | some c=>rw [ha] at h;cases h;exact⟨a,List.mem_cons_self,ha⟩
theorem Ee {T:Expr->FT}(hT:∀e,DT X e (T e)){op:BoolOp}{p:Pos}:∀es:List Expr,DT X (.BoolOp op es p) (tB T op es):=by
 have w:∀es:List Expr,es ≠ []->DW X (.BoolOp op es p) (tB T op es):=fun es=>by
  induction es with
  | nil=>intro h;exact absurd rfl h
  | cons a r ih =>
   intro _
   cases r with
   | nil=>cases op;exact yx (hT a);exact Cf (hT a)
   | cons b r =>
    have:=ih (by simp)
    cases op
    . exact zU (hT a) this
    . exact DX (hT a) this
 intro es
 cases es with
 | nil=>exact lU
 | cons a r=>exact(w (a::r) (by simp)).dt
theorem xX (m:G0)(P:Pk):∀n:Nat,(∀c X,Gd m c X->∀rf e,DE X e ((iv m P n).1 c rf e))/\(∀c X,Gd m c X->∀e,DT X e ((iv m P n).2 c e))
 | 0=>⟨fun _ _ _ _ _=>bz,fun _ _ _ _=>lU⟩
 | n+1=>by
  obtain⟨hE,hT⟩:=xX m P n
  refine⟨fun c X g rf e=>?_,fun c X g e=>?_⟩
  . show DE X e (rM m P (iv m P n).1 (iv m P n).2 c rf e)
    unfold rM
    split
    . rename_i f hf
      obtain⟨r,_,h⟩:=gz hf
      exact r.eok g (hE c X g false) h
    have hE1:=hE c X g false
    unfold xu
    split
    . exact uc
    . exact vq g
    . exact zN (hE1 _) (hE1 _)
    . exact An (hE1 _)
    . exact xA hE1 _
    . exact Ak (hT c X g _) (hE c X g rf _) (hE c X g rf _)
    . exact ym g.hu hE1
    . exact tK (dX hE1 _)
    . cases rf
      . exact B0 (dX hE1 _)
      . exact uI (dX hE1 _)
    . cases rf
      . exact vH
      . exact zf
    . exact yS g.hu hE1
    . exact vk P g hE1
    . exact oI P g (fun c X g e=>hE c X g false e) hT
    . exact bz
  . show DT X e (stepT m P (iv m P n).1 (iv m P n).2 c e)
    unfold stepT
    split
    . rename_i f hf
      obtain⟨r,_,h⟩:=gz hf
      exact r.tok g (hE c X g false) h
    unfold xl
    split
    . exact yL g.hu (hE c X g false)
    . exact CQ (hT c X g _)
    . exact Ee (hT c X g) _
    . split
      . rename_i h;exact CS (hE c X g false _) (plainT h)
      . exact lU
end
def wz (f:Stmt->FS):List Stmt->FS
 | []=>aL
 | [s]=>f s
 | s::t::r=>av (f s) (wz f (t::r))
def qK (S:Scope):Bool:=(if S.kind.isAnnotationScope then ScopeKind.function else S.kind) == .function
def sA (S:Scope)(x:Str)(px p:Pos)(sc:Scope):Bool:=qK S&&S.names.lookup x == some .local&&px.line == p.line && !(sc.names.any fun(n,k)=>n == x&&(k == .local||k == .cell))
def Aj (mt:List Str):Expr->Bool
 | .Name x _=>mt.elem x
 | _=>false
def aZ (E:Bool->Expr->FE)(mt:List Str):List Expr->List Expr->FA
 | _,[]=>aj
 | [],v::vs=>if isStar v then kP else aa (E false v) (aZ E mt [] vs)
 | t::ts,v::vs=>if isStar v then kP else aa (E (Aj mt t) v) (aZ E mt ts vs)
def xj (m:G0)(P:Pk)(c:Cs)(rf:Bool)(E:Cs->Expr->FE)(T:Cs->Expr->FT)(elt:Expr)(gs:List Comprehension)(sc:Scope):FE:=match gs with
 | [⟨tg,it,ifs,0⟩]=>if si c sc && !(isSet it) then
  (bA bB (tM m P c (E c) tg it) (lZ c sc) (gm (cS c sc) (E (cS c sc)) 3 tg) (pP (T (cS c sc)) ifs) (E (cS c sc) elt)) else bK
 | _=>bK
def jQ (S:Scope)(ts:List Expr):List Str:=ts.filterMap fun
 | .Name id pos=>if S.names.lookup id == some .local&&pos.line == (ts.head?.map (·.pos.line)).getD 0 then some id else none
 | _=>none
def BE (S:Scope)(ts vs:List Expr):Option Bool :=
 if !(ts.length == 2||ts.length == 3)||vs.length != ts.length || !(qK S) then some false
 else if(jQ S ts).length != ts.length||(jQ S ts).eraseDups.length != (jQ S ts).length then some false
 else if vs.all (foldedForSure 8) then some false
 else if vs.all (constantsAlone 8) then none
 else some true
def ib (c:Cs)(x:Str):Bool:=c.sc.names.lookup x == some .local
def uP (m:G0)(P:Pk)(E:Cs->Bool->Expr->FE)(T:Cs->Expr->FT)(c:Cs)(tg v:Expr):FS:=match tg,v with
 | .Name x px,.ListComp elt gs sc p=>(match oV c x with
  | some i=>aF (if sA c.sc x px p sc then xj m P c (c.mt.elem x) (fun c e=>E c false e) T elt gs sc else mZ m P c (c.mt.elem x) (fun c e=>E c false e) T elt gs sc) (gN i)
  | none=>cC)
 | .Name x px,v=>(match oV c x with
  | some i=>if kj v then cC else aF (E c (c.mt.elem x) v) (gN i)
  | none=>cC)
 | .Tuple ts kt pt,.Tuple vs _ _=>if vs.any isStar then cC else(match BE c.sc ts vs with
  | some false=>aF (aN aG (aZ (E c) c.mt ts vs)) (gm c (E c false) 3 (.Tuple ts kt pt))
  | some true=>(match ts,vs with
   | [.Name x _,.Name y _],[a,b]=>(match fE c.N x,fE c.N y with | some i,some j=>if jQ c.sc ts == [x,y]&&ib c x&&ib c y && !(i == j) then fJ i j (aZ (E c) c.mt ts [a,b]) else cC | _,_=>cC)
   | [.Name x _,.Name y _,.Name z _],[a,b,d]=>(match fE c.N x,fE c.N y,fE c.N z with | some i,some j,some k=>if jQ c.sc ts == [x,y,z]&&ib c x&&ib c y&&ib c z && !(i == j) && !(i == k) && !(j == k) then ke i j k (aZ (E c) c.mt ts [a,b,d]) else cC | _,_,_=>cC)
   | _,_=>cC)
  | none=>cC)
 | .Subscript o i q,v=>aF (E c false v) (gm c (E c false) 3 (.Subscript o i q))
 | tg,v=>if kj v||kf v||isStar tg then cC else aF (E c false v) (gm c (E c false) 3 tg)
def vY (m:G0)(P:Pk)(W:Nat)(kp:Bool)(E:Cs->Bool->Expr->FE)(T:Cs->Expr->FT)(B:List Stmt->FS)(c:Cs):Stmt->FS
 | .Return (some e) _=>aB (E c kp e)
 | .If t a b _=>bH (T c t) (B a) (B b)
 | .Assign [tg] v _=>uP m P E T c tg v
 | .For tg it body [] _=>if isSet it then cC else if t9 c it then jH (fG (E c false it)) (gm c (E c false) 3 tg) (B body) else ed (tM m P c (E c false) tg it) (gm c (E c false) 3 tg) (B body)
 | .While t body [] _=>i5 W (T c t) (B body)
 | .Pass _=>aL
 | .Expr (.Constant (.str _) _ _) _=>aL
 | .Expr e _=>if kj e then cC else dG (E c false e)
 | _=>cC
def sS (m:G0)(P:Pk)(W:Nat)(kp:Bool)(E:Cs->Bool->Expr->FE)(T:Cs->Expr->FT)(c:Cs):Nat->Stmt->FS
 | 0,_=>cC
 | n+1,s=>vY m P W kp E T (wz (sS m P W kp E T c n)) c s
def body (m:G0)(P:Pk)(W:Nat)(kp:Bool)(c:Cs)(sts:List Stmt):FS:=wz (sS m P W kp (iv m P 30).1 (iv m P 30).2 c 12) sts
section
variable {m:G0}{c:Cs}{X:Cx}
theorem n_ {f:Stmt->FS}(h:∀s,DS X s (f s)):∀sts:List Stmt,gQ X sts (wz f sts)
 | []=>zA
 | [s]=>yi (h s)
 | s::t::r=>v_ (h s) (n_ h (t::r))
theorem kI {E:Bool->Expr->FE}{mt:List Str}(hE:∀rf e,DE X e (E rf e)):∀(ts vs:List Expr),DA X vs (aZ E mt ts vs)
 | _,[]=>by cases ‹List Expr›<;>exact nO
 | [],v::vs=>by
  unfold aZ
  split
  . exact lJ
  . rename_i h;exact jE (hE _ v) (kI hE [] vs) (bw (by simpa using h))
 | t::ts,v::vs=>by
  unfold aZ
  split
  . exact lJ
  . rename_i h;exact jE (hE _ v) (kI hE ts vs) (bw (by simpa using h))
theorem pD (g:Gd m c X){elt:Expr}{gs:List Comprehension}{sc:Scope}{p px:Pos}{x:Str}{l:Nat}:swapsWith (.ListComp elt gs sc p) (some (.Name x px)) l X.env=pure (sA c.sc x px p sc):=by
 rw [<- g.hs];rfl
theorem De {ts vs:List Expr}{kt k2:Nat}{pt dN:Pos}{r:Bool}(g:Gd m c X)(hv:vs.any isStar=false)(h:BE c.sc ts vs=some r):swappedStores [.Tuple ts kt pt] (.Tuple vs k2 dN) X.env=pure (if r then some (jQ c.sc ts) else none):=by
 have hst:(vs.any fun | .Starred ..=>true | _=>false)=false:=by
   have:(fun(e:Expr)=>match e with | .Starred ..=>true | _=>false)=isStar:=by funext e;cases e<;>rfl
   rw [this];exact hv
 have hfk:(X.env.blockKind != ScopeKind.function) = !(qK c.sc):=by rw [<- g.hs];rfl
 unfold BE at h
 show(if(!(ts.length == 2||ts.length == 3)||vs.length != ts.length||X.env.blockKind != ScopeKind.function)=true then pure none else if(vs.any fun | .Starred ..=>true | _=>false)=true then pure none else
   if((jQ X.env.scope ts).length != ts.length||(jQ X.env.scope ts).eraseDups.length != (jQ X.env.scope ts).length)=true then pure none else if vs.all (foldedForSure 8)=true then pure none else if vs.all (constantsAlone 8)=true then _ else pure (some (jQ X.env.scope ts)))=_
 rw [hfk,hst,g.hs]
 split at h
 . rename_i h1;cases h;rw [if_pos h1];rfl
 rename_i h1
 rw [if_neg h1,if_neg (by simp)]
 split at h
 . rename_i h2;cases h;rw [if_pos h2];rfl
 rename_i h2
 rw [if_neg h2]
 split at h
 . rename_i h3;cases h;rw [if_pos h3];rfl
 rename_i h3
 rw [if_neg h3]
 split at h
 . cases h
 rename_i h4
 cases h
 rw [if_neg h4];rfl
theorem GZ {tg v:Expr}{env:Env}(h:kf v=false):swappedStores [tg] v env=pure none:=by
 cases v<;>first | (cases tg<;>rfl) | cases h
theorem pM {tg:Expr}{env:Env}(h:isStar tg=false):(assignEach [tg] env).map (·.2) = [assign tg env]:=by
 rw [j3 h];rfl
theorem wj {o i v:Expr}{q:Pos}{l:Nat}{env:Env}:swapsWithSole [.Subscript o i q] v l env=pure false:=by cases v<;>rfl
theorem Cu {o i v:Expr}{q:Pos}{env:Env}:swappedStores [.Subscript o i q] v env=pure none:=by cases v<;>rfl
theorem zO (P:Pk)(g:Gd m c X){E:Cs->Bool->Expr->FE}{T:Cs->Expr->FT}(hE:∀c X,Gd m c X->∀rf e,DE X e (E c rf e))(hT:∀c X,Gd m c X->∀e,DT X e (T c e)){tg v:Expr}{p:Pos}:DS X (.Assign [tg] v p) (uP m P E T c tg v):=by
 have isl:∀{x:Str},ib c x=true->X.env.scope.names.lookup x=some .local:=fun {x} h=>by
   rw [g.hs];exact eq_of_beq h
 unfold uP
 split
 . rename_i x px elt gs sc q
   split
   . rename_i i hi
     obtain⟨a,b,d⟩:=jy g hi
     split
     . rename_i hsw
       unfold xj
       split
       . rename_i tg it ifs
         split
         . rename_i h
           simp only [Bool.and_eq_true,Bool.not_eq_true'] at h
           obtain⟨ok,hin⟩:=p_ g (fun c X g e=>hE c X g false e) hT h.1 (tg:=tg) (elt:=elt) (ifs:=ifs)
           have hs:=(pD g (elt:=elt) (gs:=[⟨tg,it,ifs,0⟩]) (sc:=sc) (p:=q) (px:=px) (x:=x) (l:=p.line)).trans (by rw [hsw])
           exact sr g.xe g.cm ok (nD P g (hE c X g false)) hin g.m_ a b hs (jw h.2) d
         . exact .of (fun pins s σ H Q I h=>by obtain⟨_,_,_,_,_,_,_,_,h,_⟩:=h;cases h)
       . exact .of (fun pins s σ H Q I h=>by obtain⟨_,_,_,_,_,_,_,_,h,_⟩:=h;cases h)
     . rename_i hsw
       exact tx g.m_ a b (oI P g (fun c X g e=>hE c X g false e) hT) ((pD g).trans (by rw [show sA c.sc x px q sc=false by simpa using hsw])) d
   . exact b9
 . rename_i x px _
   split
   . rename_i i hi
     obtain⟨a,b,d⟩:=jy g hi
     split
     . exact b9
     . rename_i h
       exact tx g.m_ a b (hE c X g _ _) (ng (by simpa using h)) d
   . exact b9
 . rename_i ts kt pt vs k2 dN
   split
   . exact b9
   rename_i hv
   have hv:vs.any isStar=false:=by simpa using hv
   have sole:∀l,swapsWithSole [.Tuple ts kt pt] (.Tuple vs k2 dN) l X.env=pure false:=fun _=>rfl
   split
   . rename_i hp
     exact ou (tK (kI (hE c X g) ts vs)) (gR g (hE c X g false) 3 _) (sole _) (De g hv hp) rfl
   . rename_i hp
     split
     . rename_i x px y py a b
       split
       . rename_i i j hi hj
         split
         . rename_i h
           simp only [Bool.and_eq_true,Bool.not_eq_true',beq_iff_eq] at h
           obtain⟨⟨⟨h1,h2⟩,h3⟩,h4⟩:=h
           exact Dr g.cm g.m_ (by rw [g.hN];exact cY hi) (by rw [g.hN];exact cY hj) (by simpa using h4) (isl h2) (isl h3) (kI (hE c X g) _ _) ((De g hv hp).trans (by rw [if_pos rfl,h1])) (sole _)
         . exact b9
       . exact b9
     . rename_i x px y py z pz a b d
       split
       . rename_i i j k hi hj hk
         split
         . rename_i h
           simp only [Bool.and_eq_true,Bool.not_eq_true',beq_iff_eq] at h
           obtain⟨⟨⟨⟨⟨⟨h1,h2⟩,h3⟩,h4⟩,h5⟩,h6⟩,h7⟩:=h
           exact zx g.cm g.m_ (by rw [g.hN];exact cY hi) (by rw [g.hN];exact cY hj) (by rw [g.hN];exact cY hk) (by simpa using h5) (by simpa using h6) (by simpa using h7) (isl h2) (isl h3) (isl h4) (kI (hE c X g) _ _) ((De g hv hp).trans (by rw [if_pos rfl,h1])) (sole _)
         . exact b9
       . exact b9
     . exact b9
   . exact b9
 . exact ou (hE c X g false _) (gR g (hE c X g false) 3 _) wj Cu (pM rfl)
 . split
   . exact b9
   rename_i h
   simp only [Bool.or_eq_true,not_or,Bool.not_eq_true] at h
   exact ou (hE c X g false _) (gR g (hE c X g false) 3 _) (ng h.1.1) (GZ h.1.2) (pM h.2)
theorem zv (P:Pk){W:Nat}{kp:Bool}(g:Gd m c X){E:Cs->Bool->Expr->FE}{T:Cs->Expr->FT}(hE:∀c X,Gd m c X->∀rf e,DE X e (E c rf e))(hT:∀c X,Gd m c X->∀e,DT X e (T c e)){B:List Stmt->FS}(hB:∀b,gQ X b (B b))(s:Stmt) :
   DS X s (vY m P W kp E T B c s):=by
 have nv:PassesOwn (model X.prog X.w) X.A X.env X.xe:=by rw [g.xe];exact PassesOwn.never
 unfold vY
 split
 . exact CT (hE c X g _ _)
 . exact Ei (hT c X g _) (hB _) (hB _)
 . exact zO P g hE hT
 . split
   . exact b9
   . rename_i h
     split
     . exact zj nv g.cm (pB (hE c X g false _)) (gR g (hE c X g false) 3 _) (hB _) (jw (by simpa using h))
     exact Az nv g.cm (nD P g (hE c X g false)) (gR g (hE c X g false) 3 _) (hB _) (jw (by simpa using h))
 . exact vV W nv (hT c X g _) (hB _)
 . exact yd
 . exact BV
 . split
   . exact b9
   . rename_i h;exact yk (hE c X g false _) (ng (by simpa using h))
 . exact b9
theorem zi (P:Pk){W:Nat}{kp:Bool}(g:Gd m c X)(sts:List Stmt):gQ X sts (body m P W kp c sts):=by
 obtain⟨hE,hT⟩:=xX m P 30
 have:∀n s,DS X s (sS m P W kp (iv m P 30).1 (iv m P 30).2 c n s):=fun n=>by
  induction n with
  | zero=>exact fun _=>b9
  | succ n ih=>exact fun s=>zv P g hE hT (n_ ih) s
 exact n_ (this 12) sts
end
structure bf where
 nm:Str
 ps:List Str
 N:List Str
 st:Stmt
 kp:Bool
 mt:List Str
 pu:Bool
structure Mo where
 ds:List bf
 nms:List Str
 cns:List (Str×D)
 dcs:List (Str×List (Str×D))
 P:Pk
 W:Nat
def mT:Nat->List bf->List (Str×Nat×Nat)
 | _,[]=>[]
 | j,d::ds=>(d.nm,j,d.ps.length)::mT (j+1) ds
def Mo.g (M:Mo)(T:Nat->Fn)(k:Nat):G0:=⟨T,k,mT 0 M.ds,M.nms,M.cns,M.dcs⟩
def qP (pu:Bool)(f:Fn):Fn:=if pu then i9 f else f
def bf.run (M:Mo)(d:bf)(T:Nat->Fn)(k:Nat):Fn:=qP d.pu (az d.kp d.N.length d.ps.length (body (M.g T k) M.P M.W d.kp ⟨d.N,bj d.st,true,d.mt,[]⟩ (df d.st)))
theorem my:∀{ds:List bf} {j:Nat} {x:Str} {i n:Nat},(x,i,n)∈mT j ds->∃d q,i=j+q/\ds[q]? = some d/\d.nm=x/\d.ps.length=n
 | [],_,_,_,_,h=>by simp [mT] at h
 | d::ds,j,x,i,n,h=>by
  rcases List.mem_cons.mp h with h | h
  . cases h;exact⟨d,0,rfl,rfl,rfl,rfl⟩
  . obtain⟨e,q,h1,h2,h3,h4⟩:=my h
    exact⟨e,q+1,by omega,by simpa using h2,h3,h4⟩
structure Good (M:Mo)(T:Nat->Nat->Fn):Prop where
 z:∀j ds g,T 0 j ds g=none
 s:∀k j d,M.ds[j]? = some d->T (k+1) j=d.run M (T k) k
 sc:∀d∈M.ds,fU d.N d.ps (bj d.st)
structure uJ (M:Mo)(K:KW)(f:Nat->Addr)(fd:Nat->FuncData):Prop where
 fn:∀j d,M.ds[j]? = some d->qg K.fr d.nm d.nm d.st (f j) (fd j)/\K.mg d.nm=some (.ref (f j))/\Binds K.fr (fd j) d.ps []
 bl:∀x∈M.nms,K.mg x=none
 cn:∀x d,(x,d)∈M.cns->∃v u,K.mg x=some u/\RelV v u /\ ∀K H ι,Rel K H ι d v
 dc:∀x t,(x,t)∈M.dcs->∃a,K.mg x=some (.ref a)/\mV K.w K a t
section
variable {M:Mo}{T:Nat->Nat->Fn}{K:KW}{f:Nat->Addr}{fd:Nat->FuncData}{P:Program}{base:Heap}
theorem Good.len (G:Good M T){k j:Nat}{d:bf}(h:M.ds[j]? = some d):∀ds g r,T k j ds g=some r->ds.length=d.ps.length:=fun ds g r q=>by
 cases k with
 | zero=>rw [G.z] at q;cases q
 | succ k =>
  rw [G.s k j d h] at q
  unfold bf.run qP at q
  split at q
  . exact rV (fun _ _ _=>mE _ _ _) ds g r q
  . exact mE ds g r q
theorem tJ (G:Good M T)(A:uJ M K f fd):∀k j d,M.ds[j]? = some d->cL P K.w K.fr K.mg base fM k (f j) (fd j) d.ps (i7 K d.ps.length (T k j))
 | 0,j,d,h=>yO fun ds g=>G.z j ds g
 | k+1,j,d,h=>by
  have ih:=tJ G A k
  obtain⟨F,hm,hb⟩:=A.fn j d h
  have S:=G.sc d (List.mem_of_getElem? h)
  have hpl:d.ps.length<=d.N.length:=by have:=congrArg List.length S.pre;rw [List.length_take] at this;omega
  have main:cL P K.w K.fr K.mg base fM (k+1) (f j) (fd j) d.ps (i7 K d.ps.length (az d.kp d.N.length d.ps.length (body (M.g (T k) k) M.P M.W d.kp ⟨d.N,bj d.st,true,d.mt,[]⟩ (df d.st)))):=by
    refine EN F S hpl fun cdv A' outer s H E hr=>?_
    have gd:Gd (M.g (T k) k) ⟨d.N,bj d.st,true,d.mt,[]⟩ (ja fM P K.w K.fr K.mg base d.N d.nm (bj d.st) (f j) cdv A' outer s H E).qr:=⟨rfl,rfl,S.nd,rfl,rfl,hr,fun _ _=>rfl,(fun _ h=>nomatch h),fun x i n hx=>?_,A.bl,A.cn,A.dc⟩
    . exact zi M.P gd _
    obtain⟨e,q,h1,h2,h3,h4⟩:=my hx
    have h1:i=q:=by omega
    subst h1 h3 h4
    obtain⟨F',hm',hb'⟩:=A.fn i e h2
    exact⟨f i,fd i,e.ps,ih i e h2,hm',F'.kp,hb',G.len h2⟩
  rw [G.s k j d h]
  unfold bf.run qP
  split
  . exact yr main
  . exact main
end
def rj (K:PySem.W.Frag):Sp:=fun vs H Q _=>∃(a:Addr) (ns:List Int),vs = [.ref a]/\cw K H a (ns.map V.int)/\ns.length<=63 /\ ∀H',Q (.bl true) H'
theorem mJ {K:KW}{H:Hp}{ι:Ix}:∀ns:List Int,ag K H ι (ns.map D.int) (ns.map V.int)
 | []=>by simp [ag]
 | n::ns=>by
  simp only [List.map_cons,ag]
  exact⟨_,_,rfl,by simp [Rel],mJ ns⟩
theorem CC {K:KW}{fn:Fn}(h:∀ns:List Int,ns.length<=63->∃g',fn [.lst (ns.map .int)] []=some (.bl true,g'))(vs:List V)(H:Hp)(Q:VK)(E:XK)(q:rj K.fr vs H Q E):i7 K 1 fn vs H Q E:=by
 obtain⟨a,ns,rfl,hS,hl,hq⟩:=q
 obtain⟨g',hg⟩:=h ns hl
 refine⟨rfl,⟨[],[],fun _=>0⟩,[],[.lst (ns.map .int)],.bl true,g',⟨List.nodup_nil,rfl,(fun b hb=>by cases hb),(fun i xs z=>by simp at z)⟩,?_,hg,fun H' ι' v e G r=>?_⟩
 . simp only [ag]
   refine⟨_,_,rfl,?_,rfl⟩
   simp only [Rel]
   refine⟨a,_,rfl,?_,mJ ns⟩
   rcases hS with hS | hS
   . exact .inl ⟨hS,by simp,by simp⟩
   . exact .inr hS
 . simp only [Rel] at r
   rw [r]
   exact hq H'
inductive bC (K:PySem.W.Frag):List bf->List Addr->List FuncData->Prop
 | nil:bC K [] [] []
 | cons {nm:Str} {ps N:List Str} {st:Stmt} {kp pu:Bool} {mt:List Str} {ds:List bf} {fs:List Addr} {fds:List FuncData} {f:Addr} {oc:Value} {od an:Option Addr} {sl:Array (Option Value)} {kV dc pm cd ct:Value}
  (a:PySem.W.nsIn K mainGlobals nm=some (some (.ref f)))
  (l:K.lookup f=some ⟨oc,od,.func (PySem.W.fnOf nm nm (fV st) (df st) (bj st) .none kV dc pm an cd ct),sl⟩)
  (e:PySem.W.codeIn K cd nm=true) (k:PySem.W.keepIn K (.ref f)=true)
  (b:∀us:List Value,us.length=ps.length->bindArgs (PySem.W.fnOf nm nm (fV st) (df st) (bj st) .none kV dc pm an cd ct) ⟨us,[]⟩=pure (ps.zip us))
  (r:bC K ds fs fds):bC K (⟨nm,ps,N,st,kp,mt,pu⟩::ds) (f::fs) (PySem.W.fnOf nm nm (fV st) (df st) (bj st) .none kV dc pm an cd ct::fds)
theorem bC.get {K:PySem.W.Frag}{h:Heap}{mg:Str->Option Value}(X:K.In h)(G:h.Ns mainGlobals mg){f0:Addr}{d0:FuncData}:∀{ds:List bf} {fs:List Addr} {fds:List FuncData},bC K ds fs fds ->
  ∀j d,ds[j]? = some d->qg K d.nm d.nm d.st (fs.getD j f0) (fds.getD j d0)/\mg d.nm=some (.ref (fs.getD j f0))/\Binds K (fds.getD j d0) d.ps []
 | _,_,_,.nil,j,d,h=>by simp at h
 | _,_,_,.cons a l e k b r,0,d,h=>by
  simp at h;subst h
  exact⟨Cc l e k,PySem.W.mg_of X G a,.all b⟩
 | _,_,_,.cons a l e k b r,j+1,d,h=>by
  simpa using r.get X G j d (by simpa using h)
theorem bC.Fo {K:PySem.W.Frag}{d0:FuncData}:∀{ds:List bf} {fs:List Addr} {fds:List FuncData},bC K ds fs fds->∀j d,ds[j]? = some d->∀us:List Value,us.length=d.ps.length->bindArgs (fds.getD j d0) ⟨us,[]⟩=pure (d.ps.zip us)
 | _,_,_,.nil,j,d,h=>by simp at h
 | _,_,_,.cons a l e k b r,0,d,h=>by
  simp at h;subst h
  exact b
 | _,_,_,.cons a l e k b r,j+1,d,h=>by
  simpa using r.Fo j d (by simpa using h)
theorem mK {p:List Value->Prop}(h:∀a,p [a]):∀us:List Value,us.length=1->p us
 | [a],_=>h a
theorem fO {p:List Value->Prop}(h:∀a b,p [a,b]):∀us:List Value,us.length=2->p us
 | [a,b],_=>h a b
theorem p7 {p:List Value->Prop}(h:∀a b c,p [a,b,c]):∀us:List Value,us.length=3->p us
 | [a,b,c],_=>h a b c
theorem Fd {p:List Value->Prop}(h:∀a b c d,p [a,b,c,d]):∀us:List Value,us.length=4->p us
 | [a,b,c,d],_=>h a b c d
theorem whole {l:PySem.W.OpenLaw}{w:World}{K:PySem.W.Frag}{h:Heap}{mg:Str->Option Value}{fa:Addr}{M:Mo}{T:Nat->Nat->Fn}{i R:Nat}{d:bf}{x:Str}{fs:List Addr}{fds:List FuncData}(X:K.In h)(G:h.Ns mainGlobals mg)(hd:M.ds[i]? = some d)(hx:d.ps = [x])(hnm:d.nm = "law")(hfa:mg "law" = some (.ref fa))
   (gd:Good M T) (L:bC K M.ds fs fds) (bl:∀y∈M.nms,PySem.W.nsIn K mainGlobals y=some none)
   (cn:∀y e,(y,e)∈M.cns->∃v u,PySem.W.nsIn K mainGlobals y=some (some u)/\RelV v u /\ ∀K H ι,Rel K H ι e v)
   (dc:∀y t,(y,t)∈M.dcs->∃a,PySem.W.nsIn K mainGlobals y=some (some (.ref a))/\mV w ⟨K,w,mg⟩ a t)
   (spec:∀ns:List Int,ns.length<=63->∃g',T R i [.lst (ns.map .int)] []=some (.bl true,g')) :
   ∃fd:FuncData,(∀(s:Shared) (v:Value),BindsTo s fd ⟨[v],[]⟩ [(x,v)]) /\ ∀base:Heap,K.In base->base.Ns mainGlobals mg->cL l.prog w K mg base fM R fa fd [x] (rj K):=by
 have A:uJ M ⟨K,w,mg⟩ (fun j=>fs.getD j fa) (fun j=>fds.getD j (fds.getD 0 default)):=⟨fun j d h=>L.get X G j d h,fun y hy=>PySem.W.mg_none_of X G (bl y hy),fun y e hm=>by
   obtain⟨v,u,h1,h2,h3⟩:=cn y e hm
   exact⟨v,u,PySem.W.mg_of X G h1,h2,h3⟩,fun y t hm=>by
   obtain⟨a,h1,h2⟩:=dc y t hm
   exact⟨a,PySem.W.mg_of X G h1,h2⟩⟩
 obtain⟨F,hm,hb⟩:=A.fn i d hd
 rw [hnm] at hm
 have e:fs.getD i fa=fa:=by
   have:=hm.symm.trans hfa;injection this with this;injection this
 refine⟨fds.getD i (fds.getD 0 default),fun s v=>.of_eq ?_,fun base _ _=>?_⟩
 . have:=L.Fo (d0:=fds.getD 0 default) i d hd [v] (by rw [hx];rfl)
   rw [this,hx];rfl
 have ok:=tJ (P:=l.prog) (base:=base) gd A R i d hd
 dsimp only at ok
 rw [e,hx] at ok
 exact cL.imp ok (CC (K:=⟨K,w,mg⟩) spec)
end RI
namespace TL
open PySem PySem.Spec PySem.SeqAt PyProof.Rows PySem.W
section
variable {N:Nat}(hN:0<N)
include hN
end
end TL
namespace L3
open PySem PySem.Spec PyProof.Rows L2 SeqAt
mutual
def ltN:D->D->Option Bool
 | .int a,.int b=>some (decide (a<b))
 | .str a,.str b=>some (decide (a.cps.toList<b.cps.toList))
 | .tup xs,.tup ys=>oi (decide (xs.length<ys.length)) xs ys
 | _,_=>none
def oi (fin:Bool):List D->List D->Option Bool
 | x::xs,y::ys=>if aA x y=true then oi fin xs ys else ltN x y
 | _,_=>some fin
end
end L3
namespace TL
open PySem PySem.Spec PySem.SeqAt PyProof.Rows PySem.W
end TL
namespace L3
open PySem PySem.Spec PyProof.Rows L2 SeqAt
end L3
namespace RI
open PySem PySem.Spec PyProof.Rows L2 L3
def FQ:fu:=⟨"len",bP,fun _ _=>.inl ⟨_,Bd,PySem.boot_len⟩⟩
def F9:fu:=⟨"int",jh,fun _ _=>.inr ⟨_,Dk,boot_int⟩⟩
def Ip:fu:=⟨"tuple",eH,fun _ _=>.inr ⟨_,Cv,boot_tuple⟩⟩
def Gz:fu:=⟨"all",dw,fun _ hc=>.inl ⟨_,C6 hc,boot_all⟩⟩
def Gn:fu:=⟨"any",jt,fun _ hc=>.inl ⟨_,yp hc,boot_any⟩⟩
def GN:fu:=⟨"sum",iz,fun hr _=>.inl ⟨_,za hr.hd,boot_sum⟩⟩
def FN:fu:=⟨"max",lK,fun _ hc=>.inl ⟨_,Bo hc,boot_max⟩⟩
def Gq:fu:=⟨"min",lC,fun _ hc=>.inl ⟨_,AJ hc,boot_min⟩⟩
def isRef:D->Bool
 | .ref _=>true
 | _=>false
theorem nY {X:Cx}{pins:List (Addr×Obj)}{σ:L2.St}{H:Hp}{s:Shared}{ι:Ix}{g:G}{d:D}{x:V}{v:Value}(I:Inv X pins σ H s)(G0:au X.kw H ι g)(r:Rel X.kw H ι d x)(rv:RelV x v)(h:isRef d=true) :
  s.TypeIs v "list" /\ ∀a,v = .ref a->∃ob,s.heap.get? a=some ob/\ob.dict=none:=by
 cases d with
 | ref n =>
  simp only [Rel] at r
  obtain⟨a,rfl,ha⟩:=r
  have hi:n<g.length:=by rw [<- G0.len];exact(List.getElem?_eq_some_iff.mp ha.1).1
  obtain⟨vs,hv,_⟩:=G0.at (List.getElem?_eq_getElem hi) ha
  exact CI I rv (.inl ⟨rfl,vs,.of hv⟩)
 | _=>cases h
def cx (d:D)(ds:List D)(g:G):Option (D×G):=match d,ds with
 | .ref n,[x]=>(g[n]?).bind fun xs=>if aD (xs.length+1)=true then some (.non,g.set n (xs ++ [x])) else none
 | _,_=>none
theorem um {X:Cx}:MR X "list" "append" "list.append" isRef cx where
 pa:=PySem.F.plainAttrs_list
 slot:=PySem.F.slot_list_append
 ty:=PySem.F.type_list_append
 is:=nY
 run:=by
  intro pins s σ H x xs v us Q I rx rs q
  obtain⟨ι,g,d,ds,d',g',G0,r1,rl,hT,q,p⟩:=q
  cases d with
  | ref n =>
   match ds,q,rl with
   | [y],q,rl =>
    simp only [cx] at q
    obtain⟨ys,hx,q⟩:=bind_some q
    split at q
    . rename_i hz
      cases q
      simp only [Rel] at r1
      obtain⟨a,rfl,ha⟩:=r1
      simp only [ag] at rl
      obtain⟨w,_,rfl,rw_,rfl⟩:=rl
      obtain⟨ws,hw,hr⟩:=G0.at hx ha
      refine gE pins s σ H _ _ v us Q I rx rs ⟨a,ws,w,rfl,rfl,hw,?_,?_⟩
      . have:=aD.le hz;rw [<- hr.length];omega
      . exact p _ ι _ (Ext.put ha hw) (G0.put ha hw (ag.append hr (by simp only [ag];exact⟨_,_,rfl,rw_,rfl⟩))) (by simp [Rel])
    . cases q
   | [],q,_=>cases q
   | _::_::_,q,_=>cases q
  | _=>cases hT
def vA:qG:=⟨"append",isRef,cx,fun _=>⟨_,_,um⟩⟩
def uO (E:Expr->FE)(as:List Expr):FI:=match as with
 | [a]=>iM (aE E [a])
 | [a,b]=>mC (aE E [a,b])
 | _=>iS
def ya:mS where
 nm:="range"
 tup:=false
 f:=uO
 ok:=fun hr hc hm hg hE hst _=>by
  rename_i X k E tg as p pos
  unfold uO
  split
  . rename_i a
    simp only [List.any_cons,List.any_nil,Bool.or_false] at hst
    exact D5 hg hm (dX hE _) (bw hst)
  . rename_i a b
    simp only [List.any_cons,List.any_nil,Bool.or_false,Bool.or_eq_false_iff] at hst
    exact DZ hg hm (dX hE _) (by rw [bw hst.1,bw hst.2];rfl) (bw hst.2)
  . exact js
def uw (E:Expr->FE)(as:List Expr):FI:=match as with
 | [a]=>eK (E a)
 | _=>iS
def CB:mS where
 nm:="enumerate"
 tup:=true
 f:=uw
 ok:=fun hr hc hm hg hE hst ht=>by
  rename_i X k E tg as p pos
  unfold uw
  split
  . rename_i a
    simp only [List.any_cons,List.any_nil,Bool.or_false] at hst
    have:=ht rfl
    cases tg with
    | Tuple elts kt tp=>exact yh hg hm (hE a) (bw hst)
    | _=>cases this
  . exact js
def w8 (E:Expr->FE)(as:List Expr):FI:=match as with
 | [a,b]=>qX (E a) (E b)
 | _=>iS
def EI:mS where
 nm:="zip"
 tup:=true
 f:=w8
 ok:=fun hr hc hm hg hE hst ht=>by
  rename_i X k E tg as p pos
  unfold w8
  split
  . rename_i a b
    simp only [List.any_cons,List.any_nil,Bool.or_false,Bool.or_eq_false_iff] at hst
    have:=ht rfl
    cases tg with
    | Tuple elts kt tp=>exact BG hg hm (hE a) (hE b) (bw hst.1) (bw hst.2) (gX (by simpa using hst.2))
    | _=>cases this
  . exact js
def v9 (x:Str):Option Ty:=if x == "int" then some .int else if x == "bool" then some .bool else if x == "str" then some .str else if x == "tuple" then some .tuple else if x == "list" then some .list else if x == "dict" then some .dict else none
theorem ye {x:Str}{T:Ty}(h:v9 x=some T):x=Str.ofString T.name:=by
 unfold v9 at h
 split at h;· rename_i e;cases h;exact eq_of_beq e
 split at h;· rename_i e;cases h;exact eq_of_beq e
 split at h;· rename_i e;cases h;exact eq_of_beq e
 split at h;· rename_i e;cases h;exact eq_of_beq e
 split at h;· rename_i e;cases h;exact eq_of_beq e
 split at h;· rename_i e;cases h;exact eq_of_beq e
 cases h
def xN:G0->Cs->(Expr->FE)->Expr->Option FT:=fun _ _ _ _=>none
def F3:kL where
 e:=fun m c E _ x=>match x with
  | .Call (.Name f _) [a,.Name t _] [] _=>if f == "isinstance" && c.sc.names.lookup f == some .globalImplicit&&c.sc.names.lookup t == some .globalImplicit&&m.nms.elem f&&m.nms.elem t && !(isStar a) then(v9 t).map fun T=>eE T (E a) else none
  | _=>none
 eok:=by
  intro m c X E g hE rf x f h
  split at h
  . rename_i f' p a t p2 pos
    split at h
    . rename_i hh
      simp only [Bool.and_eq_true,beq_iff_eq,Bool.not_eq_true'] at hh
      obtain⟨⟨⟨⟨⟨h1,h2⟩,h3⟩,h4⟩,h5⟩,h6⟩:=hh
      obtain⟨T,hT,h⟩:=Option.map_eq_some_iff.mp h
      subst h
      have e:=ye hT
      subst h1
      subst e
      exact BL T (g.bl _ (List.elem_iff.mp h4)) (g.bl _ (List.elem_iff.mp h5)) (hE a) (g.gl h2) (g.gl h3) (bw h6)
    . cases h
  . cases h
 t:=xN
 tok:=by intro m c X E g hE x f h;cases h
def tH (d:bf):Bool :=
 decide ((bj d.st).kind = .function) && !(bj d.st).isCoroutine && !(bj d.st).isGenerator&&p5 d.N&&decide (d.N.take d.ps.length=d.ps) &&
 d.ps.all (fun x=>(bj d.st).names.lookup x == some .local||(bj d.st).names.lookup x == some .cell)&&(bj d.st).names.all (fun y=>!(y.2 == .free))
def pO (ds:List bf):Bool:=ds.all tH
theorem tw {ds:List bf}(h:pO ds=true):∀d∈ds,fU d.N d.ps (bj d.st):=fun d hd=>by
 have:=List.all_eq_true.mp h d hd
 simp only [tH,Bool.and_eq_true,decide_eq_true_eq,Bool.not_eq_true',List.all_eq_true,Bool.or_eq_true,beq_iff_eq] at this
 obtain⟨⟨⟨⟨⟨⟨h1,h2⟩,h3⟩,h4⟩,h5⟩,h6⟩,h7⟩:=this
 exact⟨h1,h2,h3,ox h4,h5,h6,fun y hy e=>by have:=h7 y hy;rw [e] at this;simp at this⟩
def At (K:PySem.W.Frag)(w:World)(mg:Str->Option Value)(M:Mo):Prop:=∃fs fds,bC K M.ds fs fds/\(∀y∈M.nms,PySem.W.nsIn K mainGlobals y=some none) /\
 (∀y e,(y,e)∈M.cns->∃v u,PySem.W.nsIn K mainGlobals y=some (some u)/\RelV v u /\ ∀K H ι,Rel K H ι e v) /\
 (∀y t,(y,t)∈M.dcs->∃a,PySem.W.nsIn K mainGlobals y=some (some (.ref a))/\mV w ⟨K,w,mg⟩ a t)
theorem yE {l:PySem.W.OpenLaw}{q:Program}{loose:List Str}{XP:(Str->Option Value)->Heap->Prop}{YP:World->Heap->Prop}{d:DefRec}{K:Params->PySem.W.Frag}{M:Mo}{T:Nat->Nat->Fn}{i R:Nat}{dt:bf}{x:Str}(hn:l.most=some 63)(hr:aC R callerA)(hdf:d.params.defaults = [])(hdn:d.name = "law")
  (hY:∀(w:World) (h:Heap),YP w h->(K w.params).In h)
  (F:∀(w:World) (mg:Str->Option Value) (h:Heap),(K w.params).In h->h.Ns mainGlobals mg->At (K w.params) w mg M)
  (hd:M.ds[i]? = some dt) (hx:dt.ps = [x]) (hnm:dt.nm = "law") (gd:Good M T)
  (spec:∀ns:List Int,ns.length<=63->∃g',T R i [.lst (ns.map .int)] []=some (.bl true,g')) :
  PySem.W.WalkO q loose XP YP l.row.toRowW d [] (fun f vs=>PySem.call f vs) :=
 L2.y_ (n:=63) (k:=R) (x:=x) (CX:=fun _=>fM) (sp:=fun w=>rj (K w.params)) hn (by decide) hdf hr hY
  (fun w mg fa h KX G hfa=>by
   obtain⟨fs,fds,L,B,C,Dc⟩:=F w mg h KX G
   rw [hdn] at hfa
   exact whole KX G hd hx hnm hfa gd L B C Dc spec)
  (fun _ _ a ns hl _ hS=>⟨a,ns,rfl,hS,hl,fun _=>rfl⟩) fun _ _ _ _ _ z=>z
section
variable {α β:Type}{P:α->Prop}{Q:α->β->Prop}
theorem bn:∀y∈([]:List α),P y:=fun y h=>by simp at h
theorem bc {x:α}{l:List α}(h:P x)(r:∀y∈l,P y):∀y∈x::l,P y:=fun y z=>by
 rcases List.mem_cons.mp z with rfl | z
 . exact h
 . exact r y z
theorem EZ:∀y e,(y,e)∈([]:List (α×β))->Q y e:=fun y e h=>by simp at h
theorem cc {x:α}{d:β}{l:List (α×β)}(h:Q x d)(r:∀y e,(y,e)∈l->Q y e):∀y e,(y,e)∈(x,d)::l->Q y e:=fun y e z=>by
 rcases List.mem_cons.mp z with z | z
 . cases z;exact h
 . exact r y e z
end
theorem cI {K:PySem.W.Frag}{y:Str}{i:Int}{t:Tok}(h:PySem.W.nsIn K mainGlobals y=some (some (.int i t))):∃v u,PySem.W.nsIn K mainGlobals y=some (some u)/\RelV v u /\ ∀K H ι,Rel K H ι (.int i) v:=⟨.int i,_,h,⟨t,rfl⟩,fun _ _ _=>by simp [Rel]⟩
theorem kJ {K H ι}:∀{xs:List D} {vs:List V} (k:Nat),ag K H ι xs vs->ag K H ι (xs.eraseIdx k) (vs.eraseIdx k)
 | [],vs,k,h=>by simp only [ag] at h;subst h;simp [ag]
 | x::xs,vs,k,h=>by
  simp only [ag] at h
  obtain⟨v,vr,rfl,h1,h2⟩:=h
  cases k with
  | zero=>simpa using h2
  | succ k =>
   simp only [List.eraseIdx_cons_succ,ag]
   exact⟨v,_,rfl,h1,kJ k h2⟩
theorem mL {K H ι}{xs:List D}{vs:List V}(h:ag K H ι xs vs):ag K H ι xs.dropLast vs.dropLast:=by
 rw [List.dropLast_eq_take,List.dropLast_eq_take,h.length.symm.symm]
 have:∀(n:Nat) {xs:List D} {vs:List V},ag K H ι xs vs->ag K H ι (xs.take n) (vs.take n):=fun n=>by
  induction n with
  | zero=>intro xs vs _;simp [ag]
  | succ n ih =>
   intro xs vs h
   cases xs with
   | nil=>simp only [ag] at h;subst h;simp [ag]
   | cons x xs =>
    simp only [ag] at h
    obtain⟨v,vr,rfl,h1,h2⟩:=h
    simp only [List.take_succ_cons,ag]
    exact⟨v,_,rfl,h1,ih h2⟩
 exact this _ h
def lR (d:D)(ds:List D)(g:G):Option (D×G):=match d,ds with
 | .ref n,[]=>(g[n]?).bind fun xs=>(xs[xs.length-1]?).map fun y=>(y,g.set n xs.dropLast)
 | .ref n,[.int i]=>(g[n]?).bind fun xs=>if(decide (-1000000<=i)&&decide (i<=1000000))=true then(seqIndex? i xs.length).bind fun k=>(xs[k]?).map fun y=>(y,g.set n (xs.eraseIdx k)) else none
 | _,_=>none
theorem CW {X:Cx}:MR X "list" "pop" "list.pop" isRef lR where
 pa:=PySem.F.plainAttrs_list
 slot:=PySem.F.slot_list_pop
 ty:=PySem.F.type_list_pop
 is:=nY
 run:=by
  intro pins s σ H x xs v us Q I rx rs q
  obtain⟨ι,g,d,ds,d',g',G0,r1,rl,hT,q,p⟩:=q
  unfold lR at q
  split at q
  . rename_i n
    obtain⟨ys,hx,q⟩:=bind_some q
    obtain⟨y,hy,q⟩:=Option.map_eq_some_iff.mp q
    cases q
    simp only [Rel] at r1
    obtain⟨a,rfl,ha⟩:=r1
    simp only [ag] at rl
    subst rl
    obtain⟨ws,hw,hr⟩:=G0.at hx ha
    obtain⟨w,hw2,rw_⟩:=hr.get hy
    refine B3 pins s σ H _ _ v us Q I rx rs ⟨a,ws,w,rfl,rfl,hw,by rw [<- hr.length];exact hw2,?_⟩
    exact p _ ι _ (Ext.put ha hw) (G0.put ha hw (mL hr)) (Rel.ext (Ext.put ha hw) _ rw_)
  . rename_i n i
    obtain⟨ys,hx,q⟩:=bind_some q
    split at q
    . rename_i hb
      simp only [Bool.and_eq_true,decide_eq_true_eq] at hb
      obtain⟨k,hk,q⟩:=bind_some q
      obtain⟨y,hy,q⟩:=Option.map_eq_some_iff.mp q
      cases q
      simp only [Rel] at r1
      obtain⟨a,rfl,ha⟩:=r1
      simp only [ag,Rel] at rl
      obtain⟨w0,_,rfl,rfl,rfl⟩:=rl
      obtain⟨ws,hw,hr⟩:=G0.at hx ha
      obtain⟨w,hw2,rw_⟩:=hr.get hy
      refine vP pins s σ H _ _ v us Q I rx rs ⟨a,ws,i,k,w,rfl,rfl,hw,by omega,by omega,by rw [<- hr.length];exact hk,hw2,?_⟩
      exact p _ ι _ (Ext.put ha hw) (G0.put ha hw (kJ k hr)) (Rel.ext (Ext.put ha hw) _ rw_)
    . cases q
  . cases q
def Ey:qG:=⟨"pop",isRef,lR,fun _=>⟨_,_,CW⟩⟩
def vE (E:Expr->FE)(v:Expr):FE:=match v with
 | .List es _=>aN mkRef (aE E es)
 | v=>E v
theorem Dy {X:Cx}{E:Expr->FE}(hE:∀e,DE X e (E e))(v:Expr):DE X v (vE E v):=by
 unfold vE
 split
 . exact uI (dX hE _)
 . exact hE _
def t6 (E:Expr->FE):List (Option Expr)->List Expr->List (FE×FE)
 | some k::ks,v::vs=>(E k,vE E v)::t6 E ks vs
 | _,_=>[]
theorem uG {X:Cx}{E:Expr->FE}(hE:∀e,DE X e (E e)):∀(ks:List (Option Expr)) (vs:List Expr),ks.all (·.isSome)=true->ks.length=vs.length->dI X ks vs (t6 E ks vs)
 | [],[],_,_=>by simp [t6,dI]
 | [],_::_,_,h=>by simp at h
 | _::_,[],_,h=>by simp at h
 | none::_,_::_,h,_=>by simp at h
 | some k::ks,v::vs,h,hl=>by
  simp only [t6,dI]
  exact⟨hE k,Dy hE v,uG hE ks vs (by simpa using h) (by simpa using hl)⟩
def Ep:kL where
 e:=fun m c E _ x=>match x with
  | .Dict (k::ks) vals _=>if(k::ks).all (·.isSome)&&decide ((k::ks).length=vals.length)&&decide ((k::ks).length<=15) then some (gY (t6 E (k::ks) vals)) else none
  | _=>none
 eok:=by
  intro m c X E g hE rf x f h
  split at h
  . rename_i k ks vals pos
    split at h
    . rename_i hh
      rw [Bool.and_eq_true,Bool.and_eq_true,decide_eq_true_eq,decide_eq_true_eq] at hh
      cases h
      exact vL g.hu (uG hE _ _ hh.1.1 hh.1.2) hh.1.1 hh.1.2 (by simp) hh.2
    . cases h
  . cases h
 t:=xN
 tok:=by intro m c X E g hE x f h;cases h
end RI
namespace PySem
namespace F
end F
end PySem
namespace L3
open PySem PySem.Spec PyProof.Rows L2 SeqAt DK
end L3
namespace HX
open PySem
def rl (x:Nat):Nat:=(x*2147483648) % 18446744073709551616+x / 8589934592
def gx (w:Nat):Nat:=let y:=((w+18446744073709551616-2870177450013471924) % 18446744073709551616)*614540362697595703 % 18446744073709551616;y % 2147483648*8589934592+y / 2147483648
def out (w:Nat):Int:=if(w == 18446744073709551616-1)=true then 1546275796 else if w<9223372036854775808 then(w:Int) else(w:Int)-18446744073709551616
end HX
set_option maxRecDepth 10000
namespace HX
open PySem
theorem ec:((18446744073709551616:Nat):Int)=18446744073709551616:=rfl
end HX
namespace L3
open PySem PySem.Spec PyProof.Rows L2 SeqAt DK HX
end L3
namespace L3
open PySem PySem.Spec PyProof.Rows L2
end L3
namespace RI
open PySem PySem.Spec PyProof.Rows L2 L3
end RI
namespace PySem
end PySem
namespace L3
open PySem PySem.Spec PyProof.Rows L2 SeqAt DK
end L3
namespace DK
open PySem PySem.Spec PyProof.Rows L2 L3
end DK
namespace L3
open PySem PySem.Spec PyProof.Rows L2 SeqAt DK
end L3
namespace L3
open PySem PySem.Spec PyProof.Rows L2
def dr (d:D)(g:G):D:=match d with
 | .ref n=>(match g[n]? with | some xs=>.lst xs | none=>.ref n)
 | d=>d
end L3
namespace RI
open PySem PySem.Spec PyProof.Rows L2 L3
end RI
namespace PySem
namespace F
theorem tV:typeLookup (.type "list_reverseiterator") "__len__" = pure none:=by rw [typeLookup_type,builtinLookup_eq_fast];kernel_rfl
theorem vc:typeLookup (.type "list_reverseiterator") "__length_hint__" = pure (some (.builtin "list_reverseiterator.__length_hint__")):=by rw [typeLookup_type,builtinLookup_eq_fast];kernel_rfl
end F
section
variable {prog:Program}{w:World}{A:Around}{E:Value->Shared->Prop}{s:Shared}
theorem lh {x:Value}{Q:List Value->Shared->Prop}
  (h:∀R:Result->Shared->Prop,(∀(h':Heap) (tk:Nat) (acc':Array Value) (c':Nat),h'.get? s.heap.objs.size=some { cls:=.type "list",dict:=none,data:=.seq acc' c',slots:=#[] }->Q acc'.toList { s with heap:=h',toks:=tk }->R (.ok (.ret (.ref s.heap.objs.size))) { s with heap:=h',toks:=tk }) ->
   wpAny (model prog w) A.in1 (Builtin.List.listExtendWith (.ref s.heap.objs.size) x (.ref s.heap.objs.size))
    (fun fin s'=>match fin with | .done f=>R (.ok f) s' | .again c'=>c'.quiet=true/\codeAny (model prog w) A c' R s') (fun e s'=>R (.error e) s') { s with heap:=s.heap.push { cls:=.type "list",data:=.seq #[] } }) :
  wpAny (model prog w) A (collect x) Q E s:=by
 unfold collect
 refine wpAny_bind (wpAny_runValue (codeAny_builtin F.entry_proto_collect ?_))
 rw [Around.under_plainId F.plain_proto_collect _]
 show wpAny _ A.in1 (newList [] >>= fun l=>again (.builtin "list.__iadd__" ⟨[l,x],[]⟩)) _ _ s
 refine wpAny_bind (wpAny_newObj_type ?_)
 refine wpAny_pure ⟨plainId_quiet F.plain_list_iadd _,codeAny_builtin F.entry_list_iadd ?_⟩
 rw [Around.under_plainId F.plain_list_iadd _]
 show wpAny _ A.in1 (Builtin.List.listExtendWith (.ref s.heap.objs.size) x (.ref s.heap.objs.size)) _ _ _
 refine h (wants _ E) fun h' tk acc' c' hS hq=>?_
 show wpAny _ A (load s.heap.objs.size >>= _) _ _ _
 refine wpAny_bind (wpAny_load hS ?_)
 exact wpAny_pure hq
theorem nE {I:Addr}{T:String}{Q:Value->Shared->Prop}(hTI:s.TypeIs (.ref I) T)(hne:(Value.type T == Value.type "tuple")=false)
  (h:∀A':Around,A'.handled=A.handled->∀(E':Value->Shared->Prop) (Q':List Value->Shared->Prop),(∀(h':Heap) (tk:Nat) (acc:Array Value),acc.size<=sizeLine->Q (.ref h'.objs.size) { s with heap:=h'.push { cls:=.type "tuple",data:=.seq acc },toks:=tk }->Q' acc.toList { s with heap:=h',toks:=tk })->wpAny (model prog w) A' (collect (.ref I)) Q' E' s) :
  wpAny (model prog w) A (call (.type "tuple") [.ref I]) Q E s:=by
 refine callType_codes (Q₁:=fun obj s₁=>s₁.TypeIs obj "tuple" /\ Q obj s₁) F.called_tuple (F.typeCall_tuple_1 _) F.entry_object_init ?_ fun obj s₁ h₁ =>
  ⟨h₁.1,F.args_object_init_2 obj _,object_init_meets F.called_tuple.init.lookup F.called_tuple.made (by decide) prog w A.in1 _ s₁ ⟨h₁.1,rfl,h₁.2⟩⟩
 refine codeAny_of_tree ?_
 show wpAny _ A.in1.in1 (do checkBuiltinCall "tuple.__new__" ⟨[.type "tuple",.ref I],[]⟩;again (.builtin "tuple.__new__" ⟨[.type "tuple",.ref I],[]⟩)) _ _ s
 refine wpAny_bind (wpAny_of_eq (F.newCall_tuple_1 _) (wpAny_pure ⟨plainId_quiet F.plain_tuple_new _,codeAny_builtin F.entry_tuple_new ?_⟩))
 rw [Around.under_plainId F.plain_tuple_new _]
 have hsub:=sub_tuple_self
 have hinit:=init_tuple_lookup
 have hmh:=madeHere_tuple
 wp_walk using wpAny_typeOf hTI,(h A.in1.in1 rfl)
 intro h' tk acc hz hq
 show wpAny _ _ (Builtin.Tuple.tupleExact acc.toList.toArray >>= fun v=>ret v) _ _ _
 unfold Builtin.Tuple.tupleExact
 refine wpAny_bind (wpAny_newObj_type ?_ (by show acc.toList.toArray.size<=sizeLine;simpa using hz))
 refine wpAny_pure ?_
 have e:acc.toList.toArray=acc:=by simp
 rw [e]
 exact⟨⟨_,Heap.get?_push_size _ rfl,rfl⟩,hq⟩
theorem jX {Q:Value->Shared->Prop}{r:Addr}{a b c:Int}{t u v:Tok}{n:Nat}(hh:A.handled=none)(hr:IsRange s.heap r a b c t u v)(hsmall:Builtin.Range.small a b c=true)
  (hn:Builtin.Range.rangeSize a b c=n) (hlen:n<=2 ^ 24)
  (hQ:∀(h':Heap) (tk:Nat) (acc:Array Value),(∀b o,s.heap.get? b=some o->h'.get? b=some o)->ItemsOf (fun i v=>∃t,v = .int (a+i*c) t) acc n->Q (.ref h'.objs.size) { s with heap:=h'.push { cls:=.type "tuple",data:=.seq acc },toks:=tk }) :
  wpAny (model prog w) A (call (.type "tuple") [.ref r]) Q E s:=by
 refine nE (T:="range") ⟨_,hr,rfl⟩ (by decide) fun A' hA E' Q' k=>lh fun R kR=>?_
 refine wpAny_extend_range (A:=A') (hA.trans hh) (Heap.get?_push_of_some _ hr) hsmall hn hlen s.heap.objs.size _ _ (Heap.get?_push_size _ rfl) fun h' tk acc' c' hk hS hi=>?_
 have keep:∀b o,s.heap.get? b=some o->h'.get? b=some o:=fun b o e=>hk b o (Nat.ne_of_lt (Heap.lt_size e)) (Heap.get?_push_of_some _ e)
 exact kR h' tk acc' c' hS (k h' tk acc' (by rw [hi.1,sizeLine_eq];omega) (hQ h' tk acc' keep hi))
theorem rA {R:Result->Shared->Prop}{I l:Addr}{items:Array Value}(hh:A.handled=none)(hit:s.heap.IsRevIter I l ((items.size:Int)-1))(hl:s.heap.IsList l items)(hne:l≠I)(hsz:items.size<=sizeLine)(S:Addr)(hSI:S≠I)(hSl:S≠l)(res:Value)(c₀:Nat)
   (hS:s.heap.get? S=some { cls:=.type "list",data:=.seq #[] c₀ })
   (hR:∀(h':Heap) (tk:Nat) (acc':Array Value) (c':Nat),(∀b o,b≠S->b≠I->s.heap.get? b=some o->h'.get? b=some o)->h'.get? S=some { cls:=.type "list",dict:=none,data:=.seq acc' c',slots:=#[] } ->
    ItemsOf (fun i v=>items[items.size-1-i]? = some v) acc' items.size->R (.ok (.ret res)) { s with heap:=h',toks:=tk }) :
   wpAny (model prog w) A.in1 (Builtin.List.listExtendWith (.ref S) (.ref I) res)
    (fun fin s'=>match fin with | .done f=>R (.ok f) s' | .again c'=>c'.quiet=true/\codeAny (model prog w) A c' R s') (fun e s'=>R (.error e) s') s:=by
 have W:=(Walks.listRev (prog:=prog) (w:=w) (A:=A.in1) hh I l hne items).toS
 have hSf:S ∉ [I,l]:=by simp only [List.mem_cons,List.not_mem_nil,or_false,not_or];exact⟨hSI,hSl⟩
 have hst:(0:Nat)<=items.size/\s.heap.IsRevIter I l ((items.size:Int)-1-((0:Nat):Int))/\s.heap.IsList l items:=⟨Nat.zero_le _,by simpa using hit,hl⟩
 have h1:Builtin.List.listSameRef (.ref S) (.ref I)=false:=by simp [Builtin.List.listSameRef,hSI]
 unfold Builtin.List.listExtendWith
 refine wpAny_bind (wpAny_typeOf hit.typeIs ?_)
 rw [if_neg (by rw [h1];decide)]
 refine wpAny_bind (wpAny_pyIter_revIter hit ?_)
 refine wpAny_bind (wpAny_holding ?_)
 unfold Builtin.List.listLengthHint
 refine wpAny_bind (wpAny_specialOf hit.typeIs F.tV ?_)
 show wpAny _ A.in1 (specialOf (Value.ref I) (Str.ofString "__length_hint__") >>= _) _ _ _
 refine wpAny_bind (wpAny_specialOf hit.typeIs F.vc ?_)
 (generalize hid:("list_reverseiterator.__length_hint__":String)=id0;(fail_if_success (clear hid id0));wp_delta;rw [show splitId id0=some ("list_reverseiterator","__length_hint__") from by subst hid;decide +kernel];subst hid)
 refine wpAny_bind (wpAny_isInstance (b:=true) hit.typeIs (by rw [isSubtype_type];kernel_rfl) ?_)
 refine wpAny_pure ?_
 rw [if_neg (by decide)]
 refine wpAny_pure ⟨plainId_quiet F.plain_extend_loop _,codeAny_extend_loopS W hsz _ hSf _ items.size 0 _ _ _ rfl (Nat.zero_le _) hst hS (ItemsOf.nil _) fun s' acc' c' hm hS' hacc=>?_⟩
 rw [Moved.eq_with hm]
 refine hR s'.heap s'.toks acc' c' (fun b o n1 n2 e=>hm.heap b o (fun hmem=>?_) e) hS' hacc
 rcases List.mem_cons.mp hmem with e' | hmem
 . exact n1 e'
 . exact n2 (List.mem_singleton.mp hmem)
theorem lT {Q:Value->Shared->Prop}{I l:Addr}{items:Array Value}(hh:A.handled=none)(hit:s.heap.IsRevIter I l ((items.size:Int)-1))(hl:s.heap.IsList l items)(hne:l≠I)(hsz:items.size<=sizeLine){h0:Heap}(h00:∀b o,h0.get? b=some o->s.heap.get? b=some o)(h01:h0.get? I=none)
  (hQ:∀(h':Heap) (tk:Nat) (acc:Array Value),(∀b o,h0.get? b=some o->h'.get? b=some o)->ItemsOf (fun i v=>items[items.size-1-i]? = some v) acc items.size->Q (.ref h'.objs.size) { s with heap:=h'.push { cls:=.type "tuple",data:=.seq acc },toks:=tk }) :
  wpAny (model prog w) A (call (.type "tuple") [.ref I]) Q E s:=by
 refine nE (T:="list_reverseiterator") hit.typeIs (by decide) fun A' hA E' Q' k=>lh fun R kR=>?_
 have hIs:I<s.heap.objs.size:=by obtain⟨o,ho,_⟩:=hit;exact Heap.lt_size ho
 have hls:l<s.heap.objs.size:=by obtain⟨o,ho,_⟩:=hl;exact Heap.lt_size ho
 refine rA (A:=A') (hA.trans hh) (hit.at fun o e=>Heap.get?_push_of_some _ e) (hl.at fun o e=>Heap.get?_push_of_some _ e) hne hsz s.heap.objs.size (Nat.ne_of_gt hIs) (Nat.ne_of_gt hls) _ _ (Heap.get?_push_size _ rfl) fun h' tk acc' c' hk hS hi=>?_
 have keep:∀b o,h0.get? b=some o->h'.get? b=some o:=fun b o e=>hk b o (Nat.ne_of_lt (Heap.lt_size (h00 b o e))) (fun z=>by rw [z,h01] at e;cases e) (Heap.get?_push_of_some _ (h00 b o e))
 exact kR h' tk acc' c' hS (k h' tk acc' (by rw [hi.1];exact hsz) (hQ h' tk acc' keep hi))
end
end PySem
namespace L3
open PySem PySem.Spec PyProof.Rows L2
def mP (ds:List D)(g:G):Option (D×G):=match ds with
 | [.int j]=>if(da j&&aD j.toNat)=true then some (.tup ((List.range j.toNat).map fun(k:Nat)=>D.int k),g) else none
 | _=>none
def jn (fr:FA):FE:=fun σ g=>(fr σ g).bind fun r=>mP r.1 r.2
theorem qZ {ds:List D}{g g':G}{d:D}(h:mP ds g=some (d,g')):∃j:Int,ds = [.int j]/\da j=true/\aD j.toNat=true/\d = .tup ((List.range j.toNat).map fun(k:Nat)=>D.int k)/\g'=g:=by
 unfold mP at h
 split at h
 . rename_i j
   split at h
   . rename_i z
     rw [Bool.and_eq_true] at z
     cases h
     exact⟨j,rfl,z.1,z.2,rfl,rfl⟩
   . cases h
 . cases h
section
variable {X:Cx}
theorem uB {p p2 pos pos2:Pos}{a:Expr}{fr:FA}(hA:X.A.handled=none)(hgl:Gl X "tuple")(hml:X.mg "tuple" = none)(hgr:Gl X "range")(hmr:X.mg "range" = none)(ha:DA X [a] fr)
  (hs:starEach [a] X.env = [(false,eval a X.env)]:=by rfl) (hs2:starEach [.Call (.Name "range" p2) [a] [] pos2] X.env = [(false,eval (.Call (.Name "range" p2) [a] [] pos2) X.env)]:=by rfl) :
  DE X (.Call (.Name "tuple" p) [.Call (.Name "range" p2) [a] [] pos2] [] pos) (jn fr):=.of (by
 intro pins s σ H Q I h
 obtain⟨ι,σd,g,d,g',G0,S0,h,pq⟩:=h
 obtain⟨⟨ds,g1⟩,h1,h⟩:=bind_some h
 refine wpAny_Call_Name_kw (c_ I hgl hml boot_tuple ?_ (by decide) (by decide))
 refine PyProof.Rows.callWith_type1 ?_ hs2 rfl
 rw [hs2]
 show wpAny _ _ (spliced ((false,eval (.Call (.Name "range" p2) [a] [] pos2) X.env) :: [])) _ _ s
 refine Calls.spliced_cons ?_
 refine Call_ (c_ I hgr hmr boot_range (PyProof.Rows.callWith_type1 (aI (ha.un pos2 pins s σ H (fun vs H1=>∃ι1,Ext H ι H1 ι1/\au X.kw H1 ι1 g1/\ag X.kw H1 ι1 ds vs) I ⟨ι,σd,g,ds,g1,G0,S0,h1,fun H1 ι1 vs e1 G1 r1=>⟨ι1,e1,G1,r1⟩⟩) fun us s1 ⟨vs,H1,I1,r1,ι1,e1,G1,rl⟩=>?_) hs rfl))
 obtain⟨j,rfl,z1,z2,rfl,rfl⟩:=qZ h
 simp only [ag,Rel] at rl
 obtain⟨v0,vr,rfl,rfl,rfl⟩:=rl
 obtain⟨u0,rfl,ru⟩:=vals1 r1
 obtain⟨t,rfl⟩:=ru
 have zb:=da.and z1
 refine call_range_1 ?_
 refine Calls.spliced_nil ?_
 have I2:L2.Inv X pins σ H1 { s1 with heap:=s1.heap.push { cls:=.type "range",data:=.fields #[.int 0 s1.toks,.int j t,.int 1 (s1.toks+1)] },toks:=s1.toks+1+1 }:=I1.kept fun b o e=>Heap.get?_push_of_some _ e
 have hz:=aD.le z2
 rw [sizeLine_eq] at hz
 refine jX (n:=j.toNat) hA (IsRange.new ..) (small_one (by omega) (by omega) zb.1 zb.2) (by rw [rangeSize_one];split<;>omega) (by omega) fun h' tk acc' hk hi=>?_
 have hv:=vF hi
 have I3:L2.Inv X pins σ H1 { s1 with heap:=h',toks:=tk }:=I2.kept hk
 have I4:L2.Inv X pins σ _ { s1 with heap:=h'.push { cls:=.type "tuple",data:=.seq acc' },toks:=tk }:=I3.laid (t':=tk) (o:=.tup (((List.range j.toNat).map fun(k:Nat)=>D.int k).map toV)) (fun b o e=>Heap.get?_push_of_some _ e) (Nat.le_refl _) ⟨by rw [List.length_map,List.length_map,List.length_range];exact aD.le z2,acc'.toList,hv,by rw [Array.toArray_toList];exact cN.new _ _⟩
 have hfr:H1 h'.objs.size=none:=I3.fresh
 refine⟨.ref _,_,I4,rfl,pq _ ι1 _ (e1.trans (Ext.lay hfr)) (G1.lay hfr) ?_⟩
 simp only [Rel]
 refine⟨_,_,rfl,.inl ⟨.inl aR,G1.fresh hfr⟩,oM ?_⟩
 simp [iV])
def lj (fe:FE):FE:=fun σ g=>(fe σ g).bind fun r=>(gH r.1 r.2).bind fun xs=>if aD xs.length=true then some (.tup xs.reverse,r.2) else none
theorem zH {p p2 pos pos2:Pos}{a:Expr}{fe:FE}(hA:X.A.handled=none)(hgl:Gl X "tuple")(hml:X.mg "tuple" = none)(hgr:Gl X "reversed")(hmr:X.mg "reversed" = none)(ha:DE X a fe)
   (hs:starEach [a] X.env = [(false,eval a X.env)]) (hs2:starEach [.Call (.Name "reversed" p2) [a] [] pos2] X.env = [(false,eval (.Call (.Name "reversed" p2) [a] [] pos2) X.env)]:=by rfl) :
   DE X (.Call (.Name "tuple" p) [.Call (.Name "reversed" p2) [a] [] pos2] [] pos) (lj fe):=.of (by
 intro pins s σ H Q I h
 obtain⟨ι,σd,g,d,g',G0,S0,h,pq⟩:=h
 obtain⟨⟨d1,g1⟩,h1,h⟩:=bind_some h
 obtain⟨xs,hxs,h⟩:=bind_some h
 split at h
 . rename_i hz
   cases h
   have hdA:DA X [a] (aa fe aj):=jE ha nO hs
   refine wpAny_Call_Name_kw (c_ I hgl hml boot_tuple ?_ (by decide) (by decide))
   refine PyProof.Rows.callWith_type1 ?_ hs2 rfl
   rw [hs2]
   show wpAny _ _ (spliced ((false,eval (.Call (.Name "reversed" p2) [a] [] pos2) X.env) :: [])) _ _ s
   refine Calls.spliced_cons ?_
   refine Call_ (c_ I hgr hmr boot_reversed (PyProof.Rows.callWith_type1 (aI (hdA.un pos2 pins s σ H (fun vs H1=>∃ι1,Ext H ι H1 ι1/\au X.kw H1 ι1 g1/\ag X.kw H1 ι1 [d1] vs) I ⟨ι,σd,g,[d1],g1,G0,S0,by simp [h1],fun H1 ι1 vs e1 G1 r1=>⟨ι1,e1,G1,r1⟩⟩) fun us s1 ⟨vs,H1,I1,r1,ι1,e1,G1,rl⟩=>?_) hs rfl))
   simp only [ag] at rl
   obtain⟨v0,vr,rfl,rv0,rfl⟩:=rl
   obtain⟨u0,rfl,ru⟩:=vals1 r1
   obtain⟨b,vs,rfl,hq,hr⟩:=gy G1 rv0 hxs
   cases ru
   obtain⟨its,rits,pl,hzl⟩:=I1.list hq
   have hlz:=aD.le hz
   refine call_reversed_list pl.isList ?_
   refine Calls.spliced_nil ?_
   have hbs:b<s1.heap.objs.size:=by obtain⟨o,m,ho,_⟩:=pl;exact Heap.lt_size ho
   have hnI:s1.heap.get? s1.heap.objs.size=none:=Heap.get?_none_of_le (Nat.le_refl _)
   refine lT (l:=b) (items:=its.toArray) (h0:=s1.heap) hA ⟨_,Heap.get?_push_size _ rfl,rfl,rfl⟩ (pl.isList.at fun o e=>Heap.get?_push_of_some _ e) (Nat.ne_of_lt hbs) (by rw [List.size_toArray,<- rits.length];exact hzl) (fun b o e=>Heap.get?_push_of_some _ e) hnI fun h' tk acc hk hi=>?_
   have I3:L2.Inv X pins σ H1 { s1 with heap:=h',toks:=tk }:=I1.kept hk
   have ea:acc.toList=its.reverse:=by
    obtain⟨q1,q2⟩:=hi
    have q1:acc.size=its.length:=by simpa using q1
    refine List.ext_getElem? fun j=>?_
    rw [Array.getElem?_toList]
    cases hj:acc[j]? with
    | none =>
     have:acc.size<=j:=Array.getElem?_eq_none_iff.mp hj
     rw [q1] at this
     rw [List.getElem?_eq_none (by rw [List.length_reverse];exact this)]
    | some v =>
     have:=q2 j v hj
     have hjl:j<acc.size:=(Array.getElem?_eq_some_iff.mp hj).1
     rw [q1] at hjl
     rw [List.getElem?_reverse hjl]
     simpa using this.symm
   have vrev:Vals vs.reverse its.reverse:=by
    have:∀{xs:List V} {us:List Value},Vals xs us->Vals xs.reverse us.reverse:=fun {xs us} r=>by
     induction r with
     | nil=>exact .nil
     | cons a b ih=>rw [List.reverse_cons,List.reverse_cons];exact Vals.append ih (.cons a .nil)
    exact this rits
   have rrev:ag X.kw H1 ι1 xs.reverse vs.reverse:=by
    have:∀(xs:List D) {vs:List V},ag X.kw H1 ι1 xs vs->ag X.kw H1 ι1 xs.reverse vs.reverse:=fun xs=>by
     induction xs with
     | nil=>intro vs h;simp only [ag] at h;subst h;simp [ag]
     | cons x xs ih =>
      intro vs h
      simp only [ag] at h
      obtain⟨v,vr,rfl,h1,h2⟩:=h
      rw [List.reverse_cons,List.reverse_cons]
      exact ag.append (ih h2) (by simp only [ag];exact⟨v,[],rfl,h1,rfl⟩)
    exact this xs hr
   have I4:L2.Inv X pins σ _ { s1 with heap:=h'.push { cls:=.type "tuple",data:=.seq acc },toks:=tk }:=I3.laid (t':=tk) (o:=.tup vs.reverse) (fun b o e=>Heap.get?_push_of_some _ e) (Nat.le_refl _) ⟨by rw [List.length_reverse];exact hzl,acc.toList,by rw [ea];exact vrev,by rw [Array.toArray_toList];exact cN.new _ _⟩
   have hfr:H1 h'.objs.size=none:=I3.fresh
   refine⟨.ref _,_,I4,rfl,pq _ ι1 _ (e1.trans (Ext.lay hfr)) (G1.lay hfr) ?_⟩
   simp only [Rel]
   exact⟨_,_,rfl,.inl ⟨.inl aR,G1.fresh hfr⟩,ag.ext (Ext.lay hfr) _ rrev⟩
 . cases h)
end
end L3
namespace RI
open PySem PySem.Spec PyProof.Rows L2 L3
def mN (m:G0)(c:Cs)(f:Str)(x:Expr):Option Expr:=match x with
 | .Call (.Name t _) [.Call (.Name r _) [a] [] _] [] _=>if t == "tuple" && r == f&&c.sc.names.lookup t == some .globalImplicit&&c.sc.names.lookup r == some .globalImplicit&&m.nms.elem t&&m.nms.elem r && !(isStar a) then some a else none
 | _=>none
theorem om {m:G0}{c:Cs}{f:Str}{x a:Expr}(h:mN m c f x=some a):∃p p2 pos pos2,x = .Call (.Name "tuple" p) [.Call (.Name f p2) [a] [] pos2] [] pos/\c.sc.names.lookup ("tuple":Str)=some .globalImplicit/\c.sc.names.lookup f=some .globalImplicit/\("tuple":Str)∈m.nms/\f∈m.nms/\isStar a=false:=by
 unfold mN at h
 split at h
 . split at h
   . rename_i hh
     simp only [Bool.and_eq_true,beq_iff_eq,Bool.not_eq_true'] at hh
     obtain⟨⟨⟨⟨⟨⟨rfl,rfl⟩,h3⟩,h4⟩,h5⟩,h6⟩,h7⟩:=hh
     cases h
     exact⟨_,_,_,_,rfl,h3,h4,List.elem_iff.mp h5,List.elem_iff.mp h6,h7⟩
   . cases h
 . cases h
def Du:kL where
 e:=fun m c E _ x=>(mN m c "range" x).map fun a=>jn (aE E [a])
 eok:=by
  intro m c X E g hE rf x f h
  obtain⟨a,ha,rfl⟩:=Option.map_eq_some_iff.mp h
  obtain⟨p,p2,pos,pos2,rfl,h1,h2,h3,h4,h5⟩:=om ha
  exact uB g.rm.hd (g.gl h1) (g.bl _ h3) (g.gl h2) (g.bl _ h4) (dX hE _) (bw h5)
 t:=xN
 tok:=by intro m c X E g hE x f h;cases h
def D_:kL where
 e:=fun m c E _ x=>(mN m c "reversed" x).map fun a=>lj (E a)
 eok:=by
  intro m c X E g hE rf x f h
  obtain⟨a,ha,rfl⟩:=Option.map_eq_some_iff.mp h
  obtain⟨p,p2,pos,pos2,rfl,h1,h2,h3,h4,h5⟩:=om ha
  exact zH g.rm.hd (g.gl h1) (g.bl _ h3) (g.gl h2) (g.bl _ h4) (hE a) (bw h5)
 t:=xN
 tok:=by intro m c X E g hE x f h;cases h
end RI
namespace PySem
namespace F
end F
end PySem
namespace PyProof.Rows
open PySem
end PyProof.Rows
namespace L3
open PySem PySem.Spec PyProof.Rows L2 SeqAt DK
end L3
namespace RI
open PySem PySem.Spec PyProof.Rows L2 L3
end RI
namespace L3
open PySem PySem.Spec PyProof.Rows L2 RI
section
variable {σ:Sg}{g:G}{fa fb fo fi:FE}{fr:FA}
@[simp] theorem II {xs:List D}{d:D}:aw (.tup xs) d g=md (.tup xs) d g:=rfl
@[simp] theorem Iy {xs:List D}{d:D}:aw (.lst xs) d g=md (.lst xs) d g:=rfl
@[simp] theorem Jo {n:Nat}{d:D}:aw (.ref n) d g=md (.ref n) d g:=rfl
@[simp] theorem Jp {n:Nat}{d:D}:aw (.aQ n) d g=(g[n]?).bind fun xs=>if bh 6 d=true then(bD xs d).map fun d=>(d,g) else none:=rfl
@[simp] theorem Hc {n:Nat}{i v:D}:gP (.ref n) i v g=putD (.ref n) i v g:=rfl
@[simp] theorem F1 {n:Nat}{i v:D}:gP (.aQ n) i v g=(g[n]?).bind fun xs=>if(bh 6 i&&nS xs)=true then some (g.set n (bR xs i v)) else none:=rfl
@[simp] theorem IH {v:D}:f7 fo fi v σ g=(fo σ g).bind fun r=>(fi σ r.2).bind fun q=>(gP r.1 q.1 v q.2).map fun g'=>(σ,g'):=rfl
@[simp] theorem Jc {isT:D->Bool}{m:D->List D->G->Option (D×G)}:dP isT m fo fr σ g=(fo σ g).bind fun r=>if isT r.1=true then(fr σ r.2).bind fun q=>m r.1 q.1 q.2 else none:=rfl
@[simp] theorem Gk:ku σ g=some (.aQ g.length,g ++ [[]]):=rfl
@[simp] theorem Ji {n:Nat}:isRef (.ref n)=true:=rfl
@[simp] theorem Ke {n:Nat}{x:D}:cx (.ref n) [x] g=(g[n]?).bind fun xs=>if aD (xs.length+1)=true then some (.non,g.set n (xs ++ [x])) else none:=rfl
@[simp] theorem Jl {n:Nat}{i:Int}:bh n (.int i)=true:=by cases n<;>rfl
@[simp] theorem IV {n:Nat}{d:D}:kU d (.aQ n) g=(g[n]?).bind fun xs=>if bh 6 d=true then some (bD xs d).isSome else none:=rfl
@[simp] theorem Iz {d e:D}:ik d e g=(kU d e g).map fun b=>(.bl b,g):=rfl
@[simp] theorem Ew {d e:D}:hZ d e g=(kU d e g).map fun b=>(.bl (!b),g):=rfl
@[simp] theorem GD:isFn .non=false:=rfl
@[simp] theorem IP {b:Bool}:isFn (.bl b)=false:=rfl
@[simp] theorem HM {b:Int}:isFn (.int b)=false:=rfl
@[simp] theorem Hu {b:Str}:isFn (.str b)=false:=rfl
@[simp] theorem n0 {b:List D}:isFn (.tup b)=false:=rfl
@[simp] theorem Hf {b:List D}:isFn (.lst b)=false:=rfl
@[simp] theorem HK:isFn .edc=false:=rfl
@[simp] theorem GA {b:Nat}:isFn (.ref b)=false:=rfl
@[simp] theorem Hg {b:Nat}:isFn (.aQ b)=false:=rfl
end
end L3
namespace Pd
open PySem L3 L2
def s_:FS:=aB (cT (eE .int (af 0)) (kA (eE .bool (af 0))))
def lX (whole:Fn):FS:=aB (cT (aq whole (aa (af 0) (aj))) (eM oLe oLe (af 1) (af 0) (af 2)))
def oR (within:Fn):FS:=aB (aq within (aa (af 0) (aa (hX fj (af 1)) (aa (af 1) (aj)))))
def tupleOfB:FS:=aB (cT (eE .tuple (af 0)) (eM oLe oLe (af 1) (aq bP (aa (af 0) (aj))) (af 2)))
def Dd (vw:Fn):FS:=aB (aq vw (aa (af 0) (aa (fC (.int 3)) (aj))))
def pS (figured tupleOf vw:Fn):FS:=av (bH (gZ (aH (ao oEq (af 1) (fC (.int 0)))) (cy (bO (eE .tuple (af 0))))) (aB (aq figured (aa (af 0) (aa (fC (.int 999999999999)) (aj))))) (aL)) (av (bH (cy (bO (aq tupleOf (aa (af 0) (aa (fC (.int 0)) (aa (fC (.int 8)) (aj))))))) (aB (fC (.bl false))) (aL)) (aB (aq dw (aa (bA bB (bW (af 0)) [none,none,some 1] (gN 1) (bq) (aq vw (aa (af 1) (aa (ao (aK aW (· - ·)) (af 2) (fC (.int 1))) (aj))))) (aj)))))
def qS:FS:=av (aF (fC (.int 0)) (gN 2)) (av (bH (aH (ao oLt (af 1) (aq bP (aa (af 0) (aj))))) (aF (ao aw (af 0) (af 1)) (gN 2)) (aL)) (aB (aN mkRef (aa (ao bS (af 2) (aq jh (aa (ao tR (af 2) (ao (aK bY (fun i j=>i ^ j.toNat)) (fC (.int 10)) (fC (.int 18)))) (aj)))) (aa (ao aM (ao aM (ao (aK cb (· % ·)) (af 2) (fC (.int 2305843009213693951))) (ao bS (fC (.int 7919)) (af 1))) (fC (.int 3))) (aa (fC (.int 0)) (aj)))))))
def rC:FS:=av (bH (aH (ao qf (ao aw (af 0) (fC (.int 0))) (fC (.int 0)))) (av (aF (ao (aK cb (· % ·)) (ao aw (af 0) (fC (.int 0))) (af 1)) (gN 2)) (av (aF (ao (aK dF (· / ·)) (ao aw (af 0) (fC (.int 0))) (af 1)) (f7 (af 0) (fC (.int 0)))) (aB (af 2)))) (aL)) (av (aF (ao aM (ao aw (af 0) (fC (.int 2))) (fC (.int 1))) (f7 (af 0) (fC (.int 2)))) (av (aF (ao aw (af 0) (fC (.int 2))) (gN 3)) (av (aF (ao (aK cb (· % ·)) (ao bS (ao aw (af 0) (fC (.int 1))) (ao aM (ao aM (fC (.int 48271)) (ao bS (ao bS (fC (.int 2)) (af 3)) (af 3))) (ao bS (fC (.int 65537)) (af 3)))) (fC (.int 2305843009213693921))) (gN 4)) (av (aF (ao aM (ao aM (ao (aK cb (· % ·)) (af 4) (fC (.int 1000003))) (ao bS (af 3) (fC (.int 99991)))) (fC (.int 11))) (gN 5)) (av (aF (ao (aK cb (· % ·)) (ao bS (af 4) (af 5)) (fC (.int 2305843009213693907))) (gN 4)) (aB (ao (aK cb (· % ·)) (ao aM (ao (aK dF (· / ·)) (af 4) (fC (.int 97))) (ao (aK dF (· / ·)) (af 4) (fC (.int 1000033)))) (af 1))))))))
def xO (take:Fn):FS:=aB (ao aw (af 1) (aq take (aa (af 0) (aa (aq bP (aa (af 1) (aj))) (aj)))))
def isWhole:D->Bool
 | .int _=>true
 | _=>false
def within (d:D)(a b:Int):Bool:=match d with | .int i=>decide (a<=i)&&decide (i<=b) | _=>false
def dm (d:D)(a b:Int):Bool:=match d with | .tup xs=>decide (a<=(xs.length:Int))&&decide ((xs.length:Int)<=b) | _=>false
def jj (d:D):Bool:=within d (-999999999999) 999999999999
def isVal:Nat->D->Bool
 | 0,d=>jj d
 | n+1,.tup xs=>decide (xs.length<=8)&&xs.all (isVal n)
 | _+1,d=>jj d
mutual
def nf:D->Bool
 | .fn _=>false
 | .tup xs=>kX xs
 | _=>true
def kX:List D->Bool
 | []=>true
 | d::ds=>nf d&&kX ds
end
theorem w9 {d:D}(h:nf d=true):isFn d=false:=by cases d<;>first | rfl | cases h
theorem ql:∀{xs:List D},kX xs=true->∀d∈xs,nf d=true
 | [],_,d,hd=>by simp at hd
 | x::xs,h,d,hd=>by
  simp only [kX,Bool.and_eq_true] at h
  rcases List.mem_cons.mp hd with rfl | hd
  . exact h.1
  . exact ql h.2 d hd
def lY (f:Fn):Prop:=∀d g,isFn d=false->f [d] g=some (.bl (isWhole d),g)
def iB (f:Fn):Prop:=∀d a b g,isFn d=false->f [d,.int a,.int b] g=some (.bl (within d a b),g)
def fy (f:Fn):Prop:=∀d a g,isFn d=false->f [d,.int a] g=some (.bl (within d (-a) a),g)
def dq (f:Fn):Prop:=∀d a b g,isFn d=false->f [d,.int a,.int b] g=some (.bl (dm d a b),g)
def oq (f:Fn)(n:Nat):Prop:=∀d g,nf d=true->f [d,.int n] g=some (.bl (isVal n d),g)
def qT (f:Fn):Prop:=∀d g,nf d=true->f [d] g=some (.bl (isVal 3 d),g)
theorem uW:lY (az false 1 1 s_):=fun d g hd=>by
 refine bL (σ':=[some d]) rfl ?_ rfl
 cases d<;>first | (simp [s_,eu,isWhole];done) | cases hd
theorem uH {w:Fn}(hw:lY w):iB (az false 3 3 (lX w)):=fun d a b g hd=>by
 refine bL (σ':=[some d,some (.int a),some (.int b)]) rfl ?_ rfl
 cases d with
 | int i =>
  simp [lX,hw (.int i) g hd,isWhole,within]
  by_cases h:a<=i<;>simp [h]
 | fn x=>cases hd
 | _=>simp [lX,hw _ g hd,isWhole,within]
theorem qD {w:Fn}(hw:iB w):fy (az false 2 2 (oR w)):=fun d a g hd=>by
 refine bL (σ':=[some d,some (.int a)]) rfl ?_ rfl
 simp [oR,hw d (-a) a g hd]
theorem qU:dq (az false 3 3 tupleOfB):=fun d a b g hd=>by
 refine bL (σ':=[some d,some (.int a),some (.int b)]) rfl ?_ rfl
 cases d with
 | tup xs =>
  simp [tupleOfB,eu,dm]
  by_cases h:a<=(xs.length:Int)<;>simp [h]
 | fn x=>cases hd
 | _=>simp [tupleOfB,eu,dm]
theorem Co {f t v:Fn}(hf:fy f):oq (az false 2 2 (pS f t v)) 0:=fun d g hd=>by
 refine bL (σ':=[some d,some (.int 0)]) rfl ?_ rfl
 simp [pS,hf d _ g (w9 hd),isVal,jj]
theorem BQ {f t v:Fn}{n:Nat}(hf:fy f)(ht:dq t)(hv:oq v n):oq (az false 2 2 (pS f t v)) (n+1):=fun d g hd=>by
 refine bL (σ':=[some d,some (.int ((n:Int)+1))]) rfl ?_ rfl
 have hn:¬((n:Int)+1=0):=by omega
 cases d with
 | tup xs =>
  by_cases h:xs.length<=8
  . have hz:xs.length<=16777216:=by omega
    have h8:(xs.length:Int)<=8:=by omega
    have h9:(0:Int)<=(xs.length:Int):=by omega
    have e:=fT (t:=gN 1) (c:=bq) (e:=aq v (aa (af 1) (aa (ao (aK aW (· - ·)) (af 2) (fC (.int 1))) aj))) (h:=fun d=>D.bl (isVal n d)) (fun σ=>∃o,σ = [none,o,some (.int ((n:Int)+1))]) xs [none,none,some (.int ((n:Int)+1))] g ⟨_,rfl⟩ (by
     rintro d hm σ ⟨o,rfl⟩
     refine⟨[none,some d,some (.int ((n:Int)+1))],by simp,by simp,?_,⟨_,rfl⟩⟩
     have e1:((n:Int)+1-1)=n:=by omega
     simp [e1,hv d g (ql hd d hm)])
    simp [pS,eu,hn,ht _ _ _ _ n0,isVal,h,h8,hz,e,dy,dm]
  . have h8:¬(xs.length:Int)<=8:=by omega
    simp [pS,eu,hn,ht _ _ _ _ n0,isVal,h,h8,dm]
 | fn x=>cases hd
 | _=>simp [pS,eu,hn,hf _ _ g (w9 hd),isVal,jj]
theorem Al {v:Fn}(hv:oq v 3):qT (az false 1 1 (Dd v)):=fun d g hd=>by
 refine bL (σ':=[some d]) rfl ?_ rfl
 have e:=hv d g hd
 simp at e
 simp [Dd,e]
theorem ij {i j:Int}(h1:-(2 ^ 64)<i)(h2:i<2 ^ 64):cR i j=true:=by
 unfold cR
 rw [Bool.or_eq_true]
 exact .inl (Nat.ble_eq_true_of_le (by omega))
theorem jI {i j:Int}(h1:-(2 ^ 64)<j)(h2:j<2 ^ 64):cR i j=true:=by
 unfold cR
 rw [Bool.or_eq_true]
 exact .inr (Nat.ble_eq_true_of_le (by omega))
theorem jT {i j:Int}(h1:0<j)(h2:j<1073741824):dF i j=true:=by
 unfold dF
 rw [Bool.and_eq_true]
 exact⟨Nat.ble_eq_true_of_le (by omega),Nat.ble_eq_true_of_le (by omega)⟩
theorem eW {i j:Int}(h1:0<j):cb i j=true:=Nat.ble_eq_true_of_le (by omega)
def Hd (g:G)(n:Nat)(B:Int):Prop:=∃a b c:Int,g[n]? = some [.int a,.int b,.int c]/\0<=a/\0<=b/\b<2 ^ 62/\0<=c/\c<=B
theorem Hd.mono {g n B B'}(h:Hd g n B)(hb:B<=B'):Hd g n B':=let⟨a,b,c,h1,h2,h3,h4,h5,h6⟩:=h;⟨a,b,c,h1,h2,h3,h4,h5,by omega⟩
theorem Hd.lt {g n B}(h:Hd g n B):n<g.length:=let⟨_,_,_,h1,_⟩:=h;(List.getElem?_eq_some_iff.mp h1).1
def Fr (n:Nat)(g g':G):Prop:=g'.length=g.length /\ ∀j,j≠n->g'[j]? = g[j]?
theorem Fr.refl {n g}:Fr n g g:=⟨rfl,fun _ _=>rfl⟩
theorem Fr.trans {n g g1 g2}(a:Fr n g g1)(b:Fr n g1 g2):Fr n g g2:=⟨b.1.trans a.1,fun j h=>(b.2 j h).trans (a.2 j h)⟩
theorem Fr.set {n:Nat}{g:G}{xs:List D}:Fr n g (g.set n xs):=⟨by simp,fun j h=>by rw [List.getElem?_set_ne (Ne.symm h)]⟩
theorem FD {a b c:D}:cH [a,b,c] 0=some a:=rfl
theorem wC {a b c:D}:cH [a,b,c] 1=some b:=rfl
theorem at2 {a b c:D}:cH [a,b,c] 2=some c:=rfl
theorem Hw {g:G}{n:Nat}{a b c v:D}(h:g[n]? = some [a,b,c]):putD (.ref n) (.int 0) v g=some (g.set n [v,b,c]):=by unfold putD;simp only [h];rfl
theorem put2 {g:G}{n:Nat}{a b c v:D}(h:g[n]? = some [a,b,c]):putD (.ref n) (.int 2) v g=some (g.set n [a,b,v]):=by unfold putD;simp only [h];rfl
def eO (f:Fn):Prop:=∀(n:Nat) (m:Int) (g:G) (B:Int),B<2 ^ 40->0<m->m<1073741824->Hd g n B ->
 ∃r g',f [.ref n,.int m] g=some (.int r,g')/\0<=r/\r<m/\Hd g' n (B+1)/\Fr n g g'
theorem yU:eO (az false 6 2 rC):=fun n m g B hB hm hm2 h=>by
 obtain⟨a,b,c,hg,ha,hb,hb2,hc,hcB⟩:=h
 have hn:n<g.length:=(List.getElem?_eq_some_iff.mp hg).1
 by_cases h0:0<a
 . refine⟨a % m,g.set n [.int (a / m),.int b,.int c],bL (σ':=[some (.ref n),some (.int m),some (.int (a % m)),none,none,none]) rfl ?_ (by simp),Int.emod_nonneg _ (by omega),Int.emod_lt_of_pos _ hm,⟨a / m,b,c,by simp [hn],Int.ediv_nonneg ha (by omega),hb,hb2,hc,by omega⟩,Fr.set⟩
   simp [rC,hg,FD,h0,eW hm,jT hm hm2,Hw hg]
 . have e2:(g.set n [.int a,.int b,.int (c+1)])[n]? = some [.int a,.int b,.int (c+1)]:=by simp [hn]
   generalize hx:b*(48271+2*(c+1)*(c+1)+65537*(c+1)) % 2305843009213693921=x
   have hx0:0<=x:=by rw [<- hx];exact Int.emod_nonneg _ (by decide)
   have hx1:x<2305843009213693921:=by rw [<- hx];exact Int.emod_lt_of_pos _ (by decide)
   generalize hy:x*(x % 1000003+(c+1)*99991+11) % 2305843009213693907=y
   refine⟨(y / 97+y / 1000033) % m,g.set n [.int a,.int b,.int (c+1)],bL (σ':=[some (.ref n),some (.int m),none,some (.int (c+1)),some (.int y),some (.int (x % 1000003+(c+1)*99991+11))]) rfl ?_ (by simp),Int.emod_nonneg _ (by omega),Int.emod_lt_of_pos _ hm,⟨a,b,c+1,e2,ha,hb,hb2,by omega,by omega⟩,Fr.set⟩
   have m1:cR 2 (c+1)=true:=ij (by decide) (by decide)
   have m2:cR (2*(c+1)) (c+1)=true:=jI (by omega) (by omega)
   have m3:cR 65537 (c+1)=true:=ij (by decide) (by decide)
   have m4:cR b (48271+2*(c+1)*(c+1)+65537*(c+1))=true:=ij (by omega) (by omega)
   have m5:cR (c+1) 99991=true:=jI (by decide) (by decide)
   have m6:cR x (x % 1000003+(c+1)*99991+11)=true:=ij (by omega) (by omega)
   have d1:cb (b*(48271+2*(c+1)*(c+1)+65537*(c+1))) 2305843009213693921=true:=eW (by decide)
   have d2:cb x 1000003=true:=eW (by decide)
   have d3:cb (x*(x % 1000003+(c+1)*99991+11)) 2305843009213693907=true:=eW (by decide)
   have d4:cb (y / 97+y / 1000033) m=true:=eW hm
   have q1:dF y 97=true:=jT (by decide) (by decide)
   have q2:dF y 1000033=true:=jT (by decide) (by decide)
   simp [rC,hg,FD,wC,at2,h0,put2 hg,e2,m1,m2,m3,m4,m5,m6,d1,d2,d3,d4,q1,q2,hx,hy]
theorem eO.w {f:Fn}(h:eO f){n:Nat}{m:Int}{g:G}{B:Int}{Q:D×G->Prop}(hB:B<2 ^ 40)(hm:0<m)(hm2:m<1073741824)(hh:Hd g n B)(q:∀r g',0<=r->r<m->Hd g' n (B+1)->Fr n g g'->Q (.int r,g')):wp (f [.ref n,.int m] g) Q:=by
 obtain⟨r,g',e,r0,r1,h1,l1⟩:=h n m g B hB hm hm2 hh
 exact⟨_,e,q r g' r0 r1 h1 l1⟩
def eQ (f:Fn):Prop:=∀(n:Nat) (xs:List D) (g:G) (B:Int),B<2 ^ 40->xs ≠ []->xs.length<1000->Hd g n B ->
 ∃d g',f [.ref n,.lst xs] g=some (d,g')/\d∈xs/\Hd g' n (B+1)/\Fr n g g'
theorem yZ {t:Fn}(ht:eO t):eQ (az false 2 2 (xO t)):=fun n xs g B hB hx hl h=>by
 have h1:0<xs.length:=List.length_pos_iff.mpr hx
 obtain⟨r,g',e,r0,r1,h',hl'⟩:=ht n (xs.length:Int) g B hB (by omega) (by omega) h
 have hr:r.toNat<xs.length:=by omega
 have ha:cH xs r=some xs[r.toNat]:=by
  unfold cH hG
  rw [if_pos r0,if_pos r1]
  exact List.getElem?_eq_getElem hr
 refine⟨xs[r.toNat],g',bL (σ':=[some (.ref n),some (.lst xs)]) rfl ?_ hl'.1,List.getElem_mem hr,h',hl'⟩
 simp [xO,e,ha]
theorem eQ.w {f:Fn}(h:eQ f){n:Nat}{xs:List D}{g:G}{B:Int}{Q:D×G->Prop}(hB:B<2 ^ 40)(hx:xs ≠ [])(hl:xs.length<1000)(hh:Hd g n B)(q:∀d g',d∈xs->Hd g' n (B+1)->Fr n g g'->Q (d,g')):wp (f [.ref n,.lst xs] g) Q:=by
 obtain⟨d,g',e,r0,h1,l1⟩:=h n xs g B hB hx hl hh
 exact⟨_,e,q d g' r0 h1 l1⟩
theorem FC:bY 10 18=true:=by decide
def kG (f:Fn):Prop:=∀(ns:List Int) (i:Nat) (g:G),i<=100->∃xs,f [.lst (ns.map .int),.int i] g=some (.ref g.length,g ++ [xs])/\Hd (g ++ [xs]) g.length 0
section
variable {σ σ1:Sg}{g g1:G}{f:FE}{f1 f2:FS}{c:FT}{d:D}
theorem kK (h:f1 σ g=some (.nx,σ1,g1)):av f1 f2 σ g=f2 σ1 g1:=by rw [dh,h];rfl
theorem rJ {i:Nat}(h:f σ g=some (d,g1)):aF f (gN i) σ g=some (.nx,σ.set i (some d),g1):=by rw [zw,h];rfl
theorem GR (h:c σ g=some (true,g1)):bH c f1 f2 σ g=f1 σ g1:=by rw [fw,h];rfl
theorem Ge (h:c σ g=some (false,g1)):bH c f1 f2 σ g=f2 σ g1:=by rw [fw,h];rfl
end
theorem a_ {n:Nat}(h:n<=1000):aD n=true:=by
 rw [zC]
 exact decide_eq_true (by omega)
theorem zk:kG (az true 3 2 qS):=fun ns i g hi=>by
 have fin:∀cell:Int,∃xs,(aB (aN mkRef (aa (ao bS (af 2) (aq jh (aa (ao tR (af 2) (ao (aK bY (fun i j=>i ^ j.toNat)) (fC (.int 10)) (fC (.int 18)))) (aj)))) (aa (ao aM (ao aM (ao (aK cb (· % ·)) (af 2) (fC (.int 2305843009213693951))) (ao bS (fC (.int 7919)) (af 1))) (fC (.int 3))) (aa (fC (.int 0)) (aj)))))) [some (.lst (ns.map .int)),some (.int i),some (.int cell)] g=some (.rt (.ref g.length),[some (.lst (ns.map .int)),some (.int i),some (.int cell)],g ++ [xs])/\Hd (g ++ [xs]) g.length 0:=by
   intro cell
   have q0:0<=cell % 2305843009213693951:=Int.emod_nonneg _ (by decide)
   have q1:cell % 2305843009213693951<2305843009213693951:=Int.emod_lt_of_pos _ (by decide)
   have d1:cb cell 2305843009213693951=true:=eW (by decide)
   have m2:cR 7919 (i:Int)=true:=ij (by decide) (by decide)
   by_cases hc:1000000000000000000<=cell
   . have m1:cR cell 1=true:=jI (by decide) (by decide)
     refine⟨[.int cell,.int (cell % 2305843009213693951+7919*i+3),.int 0],by simp [FC,hc,m1,m2,d1],?_⟩
     exact⟨cell,cell % 2305843009213693951+7919*i+3,0,by simp,by omega,by omega,by omega,by omega,by omega⟩
   . have m1:cR cell 0=true:=jI (by decide) (by decide)
     refine⟨[.int 0,.int (cell % 2305843009213693951+7919*i+3),.int 0],by simp [FC,hc,m1,m2,d1],?_⟩
     exact⟨0,cell % 2305843009213693951+7919*i+3,0,by simp,by omega,by omega,by omega,by omega,by omega⟩
 by_cases h:i<ns.length
 . obtain⟨xs,e,hx⟩:=fin ns[i]
   refine⟨xs,p8 (σ':=[some (.lst (ns.map .int)),some (.int i),some (.int ns[i])]) rfl ?_,hx⟩
   unfold qS
   refine(kK (rJ (d:=.int 0) (g1:=g) rfl)).trans ?_
   refine(kK (σ1:=[some (.lst (ns.map .int)),some (.int i),some (.int ns[i])]) (g1:=g) ((GR (g1:=g) ?_).trans (rJ ?_))).trans e
   . have:(i:Int)<(ns.length:Int):=by omega
     simp [this]
   . have ha:cH (ns.map D.int) (i:Int)=some (.int ns[i]):=zM (by simp [h])
     simp [ha]
 . obtain⟨xs,e,hx⟩:=fin 0
   refine⟨xs,p8 (σ':=[some (.lst (ns.map .int)),some (.int i),some (.int 0)]) rfl ?_,hx⟩
   unfold qS
   refine(kK (rJ (d:=.int 0) (g1:=g) rfl)).trans ?_
   refine(kK (σ1:=[some (.lst (ns.map .int)),some (.int i),some (.int 0)]) (g1:=g) ((Ge (g1:=g) ?_).trans rfl)).trans e
   have:¬(i:Int)<(ns.length:Int):=by omega
   simp [this]
def cost:Nat->Int
 | 0=>3
 | n+1=>4+8*(1+cost n)
def qa (f:Fn)(dp:Nat):Prop:=∀(n:Nat) (g:G) (B:Int),0<=B->B+cost dp<2 ^ 40->Hd g n B->∃d g',f [.ref n,.int dp] g=some (d,g')/\isVal dp d=true/\Hd g' n (B+cost dp)/\Fr n g g'
theorem qa.w {f:Fn}{dp:Nat}(h:qa f dp){n:Nat}{g:G}{B:Int}{Q:D×G->Prop}(hB0:0<=B)(hB:B+cost dp<2 ^ 40)(hh:Hd g n B)(q:∀d g',isVal dp d=true->Hd g' n (B+cost dp)->Fr n g g'->Q (d,g')):wp (f [.ref n,.int dp] g) Q:=by
 obtain⟨d,g',e,r0,h1,l1⟩:=h n g B hB0 hB hh
 exact⟨_,e,q d g' r0 h1 l1⟩
theorem kG.w {f:Fn}(h:kG f){ns:List Int}{i:Nat}{g:G}{Q:D×G->Prop}(hi:i<=100)(q:∀xs,Hd (g ++ [xs]) g.length 0->Q (.ref g.length,g ++ [xs])):wp (f [.lst (ns.map .int),.int i] g) Q:=by
 obtain⟨xs,e,hx⟩:=h ns i g hi
 exact⟨_,e,q xs hx⟩
def dj (i:Int)(n:Nat):List D:=(List.range n).map fun(k:Nat)=>D.int (i+k)
theorem lS {i n}:(dj i n).length=n:=by simp [dj]
theorem qV {fr:FA}{σ:Sg}{g:G}{Q:List D×G->Prop}(h:wp (fr σ g) fun r=>∃j:Int,r.1 = [.int j] /\ -1000000<=j/\j<=1000000/\Q (dj 0 j.toNat,r.2)):wp (iM fr σ g) Q:=by
 obtain⟨⟨ds,g'⟩,e,j,rfl,h1,h2,q⟩:=h
 refine⟨_,?_,q⟩
 unfold iM
 rw [e]
 simp only [Option.bind_some]
 rw [if_pos (da.of h1 h2)]
 rfl
theorem Ds {fr:FA}{σ:Sg}{g:G}{Q:List D×G->Prop}(h:wp (fr σ g) fun r=>∃i j:Int,r.1 = [.int i,.int j]/\(-1000000<=i/\i<=1000000)/\(-1000000<=j/\j<=1000000)/\Q (dj i (j-i).toNat,r.2)):wp (mC fr σ g) Q:=by
 obtain⟨⟨ds,g'⟩,e,i,j,rfl,h1,h2,q⟩:=h
 refine⟨_,?_,q⟩
 unfold mC
 rw [e]
 simp only [Option.bind_some]
 rw [if_pos (by rw [da.of h1.1 h1.2,da.of h2.1 h2.2];rfl)]
 rfl
theorem yX {i:Int}{n j:Nat}{d:D}(h:(dj i n)[j]? = some d):j<n/\d = .int (i+j):=by
 unfold dj at h
 rw [List.getElem?_map] at h
 cases hj:(List.range n)[j]? with
 | none=>rw [hj] at h;cases h
 | some x =>
  rw [hj] at h
  have hl:=(List.getElem?_eq_some_iff.mp hj).1
  have:x=j:=by rw [List.getElem?_range (by simpa using hl)] at hj;cases hj;rfl
  subst this
  cases h
  exact⟨by simpa using hl,rfl⟩
theorem nZ {n j:Nat}{d:D}(h:(dj 0 n)[j]? = some d):j<n/\d = .int j:=by
 obtain⟨h1,rfl⟩:=yX h
 exact⟨h1,by simp⟩
theorem lM {nN nP:Nat}{b:FS}{ds:List D}{g:G}{Q:D×G->Prop}(hl:ds.length=nP)(h:wp (b (ds.map some++List.replicate (nN-nP) none) g) fun r=>∃(k:Nat) (xs:List D),r.1 = .rt (.ref k)/\g.length<=k/\r.2.2[k]? = some xs/\aP g.length xs=true/\(r.2.2.take g.length).all (aP g.length)=true/\Q (.lst xs,r.2.2.take g.length)):wp (az false nN nP b ds g) Q:=by
 obtain⟨⟨r,σ,g'⟩,e,k,xs,rfl,h1,h2,h3,h4,q⟩:=h
 dsimp only at *
 unfold az
 rw [if_pos hl,e]
 have h5:k<g'.length:=(List.getElem?_eq_some_iff.mp h2).1
 refine⟨_,?_,q⟩
 have z1:¬g'.length=g.length:=by omega
 have z2:¬k<g.length:=by omega
 simp only [Option.bind_some,Bool.false_eq_true,if_false]
 unfold L3.settle
 rw [if_neg z1,if_pos h4]
 dsimp only
 rw [if_neg z2,h2]
 simp only [h3,if_true]
def Clean (g:G):Prop:=∀xs∈g,∀n,aP n xs=true
theorem Clean.fr {n:Nat}{g g':G}{B:Int}(hc:Clean g)(f:Fr n g g')(h:Hd g' n B):Clean g':=by
 intro xs hx m
 obtain⟨j,hj⟩:=List.mem_iff_getElem?.mp hx
 by_cases e:j=n
 . subst e
   obtain⟨a,b,c,h1,_⟩:=h
   rw [h1] at hj
   cases hj
   simp [aP,bp]
 . rw [f.2 j e] at hj
   exact hc xs (List.mem_iff_getElem?.mpr ⟨j,hj⟩) m
theorem Clean.app {g:G}{xs:List D}{B:Int}(hc:Clean g)(h:Hd (g ++ [xs]) g.length B):Clean (g ++ [xs]):=by
 obtain⟨a,b,c,h1,_⟩:=h
 simp at h1
 subst h1
 intro ys hy m
 rcases List.mem_append.mp hy with hy | hy
 . exact hc ys hy m
 . simp at hy
   subst hy
   simp [aP,bp]
theorem Clean.all {g:G}(hc:Clean g)(n:Nat):g.all (aP n)=true:=List.all_eq_true.mpr fun xs hx=>hc xs hx n
theorem cM {n:Nat}:∀{xs:List D},(∀x∈xs,bp n x=true)->aP n xs=true
 | [],_=>rfl
 | x::xs,h=>by
  simp only [aP,Bool.and_eq_true]
  exact⟨h x (by simp),cM fun y hy=>h y (by simp [hy])⟩
theorem eC {xs:List D}{n:Nat}{d:D}(h:xs[n]? = some d):cH xs (n:Int)=some d:=by
 have hl:=(List.getElem?_eq_some_iff.mp h).1
 have h1:(0:Int)<=n:=by omega
 have h2:(n:Int)<(xs.length:Int):=by omega
 unfold cH hG
 rw [if_pos h1,if_pos h2]
 simpa using h
structure Mk (g gg:G)(n:Nat)(B:Int)(xs:List D):Prop where
 hd:Hd gg n B
 lt:n<g.length
 len:gg.length=g.length+1
 at_:gg[g.length]? = some xs
 old:∀j,j≠n->j<g.length->gg[j]? = g[j]?
theorem Mk.init {g:G}{n:Nat}{B:Int}{xs:List D}(h:Hd g n B):Mk g (g ++ [xs]) n B xs:=by
 have hl:=h.lt
 obtain⟨a,b,c,h1,h2⟩:=h
 exact⟨⟨a,b,c,by rw [List.getElem?_append_left hl];exact h1,h2⟩,hl,by simp,by simp,fun j _ hj=>List.getElem?_append_left hj⟩
theorem Mk.step {g gg g':G}{n:Nat}{B B':Int}{xs:List D}(m:Mk g gg n B xs)(h:Hd g' n B')(f:Fr n gg g'):Mk g g' n B' xs:=by
 have:=m.lt
 exact⟨h,m.lt,by rw [f.1];exact m.len,by rw [f.2 _ (by omega)];exact m.at_,fun j hj hl=>by rw [f.2 j hj];exact m.old j hj hl⟩
theorem Mk.put {g gg:G}{n:Nat}{B:Int}{xs ys:List D}(m:Mk g gg n B xs):Mk g (gg.set g.length ys) n B ys:=by
 have h1:=m.lt
 have h2:=m.len
 obtain⟨a,b,c,h3,h4⟩:=m.hd
 refine⟨⟨a,b,c,by rw [List.getElem?_set_ne (by omega)];exact h3,h4⟩,h1,by simp [h2],by simp [h2],fun j hj hl=>by rw [List.getElem?_set_ne (by omega)];exact m.old j hj hl⟩
theorem Mk.mono {g gg:G}{n:Nat}{B B':Int}{xs:List D}(m:Mk g gg n B xs)(h:B<=B'):Mk g gg n B' xs:=⟨m.hd.mono h,m.lt,m.len,m.at_,m.old⟩
theorem Mk.fin {g gg:G}{n:Nat}{B:Int}{xs:List D}(m:Mk g gg n B xs):Hd (gg.take g.length) n B/\Fr n g (gg.take g.length):=by
 have h1:=m.lt
 have h2:=m.len
 obtain⟨a,b,c,h3,h4⟩:=m.hd
 refine⟨⟨a,b,c,by rw [List.getElem?_take_of_lt h1];exact h3,h4⟩,by simp [h2],fun j hj=>?_⟩
 by_cases hl:j<g.length
 . rw [List.getElem?_take_of_lt hl];exact m.old j hj hl
 . rw [List.getElem?_eq_none (by simp;omega),List.getElem?_eq_none (by omega)]
structure eG (g gg:G)(n:Nat)(B:Int)(xs:List D):Prop where
 hd:Hd gg n B
 lt:n<g.length
 len:g.length+1<=gg.length
 at_:gg[g.length]? = some xs
 old:∀j,j≠n->j<g.length->gg[j]? = g[j]?
theorem eG.step {g gg g':G}{n:Nat}{B B':Int}{xs:List D}(m:eG g gg n B xs)(h:Hd g' n B')(f:Fr n gg g'):eG g g' n B' xs:=by
 have:=m.lt
 exact⟨h,m.lt,by rw [f.1];exact m.len,by rw [f.2 _ (by omega)];exact m.at_,fun j hj hl=>by rw [f.2 j hj];exact m.old j hj hl⟩
theorem eG.put {g gg:G}{n:Nat}{B:Int}{xs ys:List D}(m:eG g gg n B xs):eG g (gg.set g.length ys) n B ys:=by
 have h1:=m.lt
 have h2:=m.len
 obtain⟨a,b,c,h3,h4⟩:=m.hd
 refine⟨⟨a,b,c,by rw [List.getElem?_set_ne (by omega)];exact h3,h4⟩,h1,by simp [h2],?_,fun j hj hl=>by rw [List.getElem?_set_ne (by omega)];exact m.old j hj hl⟩
 rw [List.getElem?_set_self (by omega)]
theorem eG.mono {g gg:G}{n:Nat}{B B':Int}{xs:List D}(m:eG g gg n B xs)(h:B<=B'):eG g gg n B' xs:=⟨m.hd.mono h,m.lt,m.len,m.at_,m.old⟩
theorem eG.inner {g gg g3:G}{n:Nat}{B B':Int}{xs ys:List D}(m:eG g gg n B xs)(k:Mk gg g3 n B' ys):eG g g3 n B' xs:=by
 have h1:=m.lt
 have h2:=m.len
 have h3:=k.len
 exact⟨k.hd,h1,by omega,by rw [k.old _ (by omega) (by omega)];exact m.at_,fun j hj hl=>by rw [k.old j hj (by omega)];exact m.old j hj hl⟩
theorem eG.fin {g gg:G}{n:Nat}{B:Int}{xs:List D}(m:eG g gg n B xs):Hd (gg.take g.length) n B/\Fr n g (gg.take g.length):=by
 have h1:=m.lt
 have h2:=m.len
 obtain⟨a,b,c,h3,h4⟩:=m.hd
 refine⟨⟨a,b,c,by rw [List.getElem?_take_of_lt h1];exact h3,h4⟩,by simp;omega,fun j hj=>?_⟩
 by_cases hl:j<g.length
 . rw [List.getElem?_take_of_lt hl];exact m.old j hj hl
 . rw [List.getElem?_eq_none (by simp;omega),List.getElem?_eq_none (by omega)]
end Pd
namespace Pd
open PySem L3 L2 RI
def qb:FS:=aB (cT (ao cU (ao aw (af 0) (fC (.int 3))) (fC .non)) (ao oLe (ao aw (af 0) (fC (.int 3))) (ao aw (af 1) (fC (.int 2)))))
def mQ (p:Int):D->Bool
 | .tup [.str x]=>x == "look"
 | .tup [.str x,q,v]=>x == "put" && (within q 0 (p-1)&&isVal 3 v)
 | _=>false
def dU:D->Bool
 | .non=>true
 | _=>false
def jl (b e:D):Bool:=match b with
 | .int i=>decide (0<=i)&&(match e with | .non=>true | .int j=>decide (i<j) | _=>false)
 | _=>false
def iL (p:Int):D->Bool
 | .tup xs=>decide ((xs.length:Int)=p)&&xs.all (isVal 3)
 | _=>false
def bN:D->Bool
 | .tup (.str x::_)=>x == "look"
 | _=>false
def lq (p:Int):D->Bool
 | .tup [h,dd,b,e,t]=>within h 0 9&&(mQ p dd&&jl b e)&&(if bN dd && !dU e then iL p t else dU t)
 | _=>false
theorem el {x:D}{xs:List D}:cH (x::xs) 0=some x:=eC (n:=0) rfl
theorem eV {x y:D}{xs:List D}:cH (x::y::xs) 1=some y:=eC (n:=1) rfl
theorem sg {x y z:D}{xs:List D}:cH (x::y::z::xs) 2=some z:=eC (n:=2) rfl
theorem wo {x y z w:D}{xs:List D}:cH (x::y::z::w::xs) 3=some w:=eC (n:=3) rfl
theorem ip {x y z w v:D}{xs:List D}:cH (x::y::z::w::v::xs) 4=some v:=eC (n:=4) rfl
theorem eq_str {x y:Str}:aA (.str x) (.str y)=(x == y):=by simp [aA]
def eD:Option Int->D
 | none=>.non
 | some e=>.int e
structure iD (p:Int)(d:D)(h:Int)(dd:D)(b:Int)(e:Option Int)(tl:D):Prop where
 eq:d = .tup [.int h,dd,.int b,eD e,tl]
 h0:0<=h
 h9:h<=9
 dd_:mQ p dd=true
 b0:0<=b
 eb:∀x,e=some x->b<x
theorem pN {p:Int}{d:D}(hr:lq p d=true):∃h dd b e tl,iD p d h dd b e tl:=by
 unfold lq at hr
 split at hr
 . rename_i h dd b e tl
   simp only [Bool.and_eq_true] at hr
   obtain⟨⟨h1,h2,h3⟩,hz⟩:=hr
   clear hz
   unfold within at h1
   split at h1
   . rename_i i
     simp only [Bool.and_eq_true,decide_eq_true_eq] at h1
     unfold jl at h3
     split at h3
     . rename_i j
       simp only [Bool.and_eq_true,decide_eq_true_eq] at h3
       obtain⟨h3,h4⟩:=h3
       split at h4
       . exact⟨i,dd,j,none,tl,rfl,h1.1,h1.2,h2,h3,fun x z=>by cases z⟩
       . rename_i k
         exact⟨i,dd,j,some k,tl,rfl,h1.1,h1.2,h2,h3,fun x z=>by cases z;exact of_decide_eq_true h4⟩
       . cases h4
     . cases h3
   . cases h1
 . cases hr
def hI:D->Int
 | .tup (.int h::_)=>h
 | _=>0
def bI:D->Int
 | .tup [_,_,.int b,_,_]=>b
 | _=>0
def eI:D->Option Int
 | .tup [_,_,_,.int e,_]=>some e
 | _=>none
def la (o r:D):Bool:=match eI o with
 | some e=>decide (e<=bI r)
 | none=>false
theorem iD.hI {p d h dd b e tl}(r:iD p d h dd b e tl):Pd.hI d=h:=by rw [r.eq];rfl
theorem iD.bI {p d h dd b e tl}(r:iD p d h dd b e tl):Pd.bI d=b:=by rw [r.eq];rfl
theorem iD.eI {p d h dd b e tl}(r:iD p d h dd b e tl):Pd.eI d=e:=by rw [r.eq];cases e<;>rfl
def hJ (p:Int)(f:Fn):Prop:=∀o r g,lq p o=true->lq p r=true->f [o,r] g=some (.bl (la o r),g)
theorem v5 {p:Int}:hJ p (az false 2 2 qb):=fun o r g ho hr=>by
 refine bL (σ':=[some o,some r]) rfl ?_ rfl
 obtain⟨h,dd,b,e,tl,R⟩:=pN ho
 obtain⟨h',dd',b',e',tl',R'⟩:=pN hr
 unfold la
 rw [R.eI,R'.bI,R.eq,R'.eq]
 cases e<;>simp [qb,wo,sg,eD,isLit,cP]
structure dJ (g gg:G)(n:Nat)(B:Int)(cs:List (List D)):Prop where
 hd:Hd gg n B
 lt:n<g.length
 len:gg.length=g.length+cs.length
 at_:∀i,i<cs.length->gg[g.length+i]? = cs[i]?
 old:∀j,j≠n->j<g.length->gg[j]? = g[j]?
theorem dJ.none {g:G}{n:Nat}{B:Int}(h:Hd g n B):dJ g g n B []:=⟨h,h.lt,by simp,fun i hi=>by simp at hi,fun j _ _=>rfl⟩
theorem dJ.push {g gg:G}{n:Nat}{B:Int}{cs:List (List D)}(m:dJ g gg n B cs)(xs:List D):dJ g (gg ++ [xs]) n B (cs ++ [xs]):=by
 have hl:=m.len
 have h1:=m.lt
 obtain⟨a,b,c,h2,h3⟩:=m.hd
 refine⟨⟨a,b,c,by rw [List.getElem?_append_left (by omega)];exact h2,h3⟩,h1,by simp [hl];omega,fun i hi=>?_,fun j hj hjl=>by rw [List.getElem?_append_left (by omega)];exact m.old j hj hjl⟩
 by_cases e:i<cs.length
 . rw [List.getElem?_append_left (by omega),List.getElem?_append_left e];exact m.at_ i e
 . have:i=cs.length:=by simp at hi;omega
   subst this
   rw [List.getElem?_append_right (by omega),List.getElem?_append_right (by omega)]
   simp [hl]
theorem dJ.step {g gg g':G}{n:Nat}{B B':Int}{cs:List (List D)}(m:dJ g gg n B cs)(h:Hd g' n B')(f:Fr n gg g'):dJ g g' n B' cs:=by
 have:=m.lt
 exact⟨h,m.lt,by rw [f.1];exact m.len,fun i hi=>by rw [f.2 _ (by omega)];exact m.at_ i hi,fun j hj hl=>by rw [f.2 j hj];exact m.old j hj hl⟩
theorem dJ.put {g gg:G}{n:Nat}{B:Int}{cs:List (List D)}(m:dJ g gg n B cs)(i:Nat)(ys:List D):dJ g (gg.set (g.length+i) ys) n B (cs.set i ys):=by
 have h1:=m.lt
 have h2:=m.len
 obtain⟨a,b,c,h3,h4⟩:=m.hd
 refine⟨⟨a,b,c,by rw [List.getElem?_set_ne (by omega)];exact h3,h4⟩,h1,by simp [h2],fun j hj=>?_,fun j hj hl=>by rw [List.getElem?_set_ne (by omega)];exact m.old j hj hl⟩
 by_cases e:i=j
 . subst e
   simp at hj
   rw [List.getElem?_set_self (by omega),List.getElem?_set_self hj]
 . rw [List.getElem?_set_ne (by omega),List.getElem?_set_ne e];exact m.at_ j (by simpa using hj)
theorem dJ.mono {g gg:G}{n:Nat}{B B':Int}{cs:List (List D)}(m:dJ g gg n B cs)(h:B<=B'):dJ g gg n B' cs:=⟨m.hd.mono h,m.lt,m.len,m.at_,m.old⟩
theorem dJ.fin {g gg:G}{n:Nat}{B:Int}{cs:List (List D)}(m:dJ g gg n B cs):Hd (gg.take g.length) n B/\Fr n g (gg.take g.length):=by
 have h1:=m.lt
 have h2:=m.len
 obtain⟨a,b,c,h3,h4⟩:=m.hd
 refine⟨⟨a,b,c,by rw [List.getElem?_take_of_lt h1];exact h3,h4⟩,by simp [h2],fun j hj=>?_⟩
 by_cases hl:j<g.length
 . rw [List.getElem?_take_of_lt hl];exact m.old j hj hl
 . rw [List.getElem?_eq_none (by simp;omega),List.getElem?_eq_none (by omega)]
inductive d_:List D->Prop
 | nil:d_ []
 | cons (k:Int) (v:D) {r:List D}:d_ r->d_ (.int k::v::r)
theorem fP {a b:Int}:aA (.int a) (.int b)=decide (a=b):=by
 by_cases h:a=b<;>simp [aA,h]
theorem d_.put {xs:List D}(h:d_ xs)(k:Int)(v:D):d_ (bR xs (.int k) v):=by
 induction h with
 | nil=>exact .cons k v .nil
 | cons j w h ih =>
  simp only [bR,fP]
  split
  . exact .cons j v h
  . exact .cons j w ih
theorem d_.get {xs:List D}(h:d_ xs)(k j:Int)(v:D):bD (bR xs (.int k) v) (.int j)=if k=j then some v else bD xs (.int j):=by
 induction h with
 | nil=>simp [bR,bD,fP]
 | cons i w h ih =>
  simp only [bR,fP]
  by_cases e:i=k
  . subst e
    simp [bD,fP]
    split<;>rfl
  . simp [e,bD,fP,ih]
    by_cases e2:i=j
    . subst e2
      have:¬k=i:=fun z=>e z.symm
      simp [this]
    . simp [e2]
theorem d_.len {xs:List D}(h:d_ xs)(k:Int)(v:D):(bR xs (.int k) v).length<=xs.length+2:=by
 induction h with
 | nil=>simp [bR]
 | cons i w h ih =>
  simp only [bR,fP]
  split
  . simp
  . simp;omega
theorem d_.bp {xs:List D}(h:d_ xs){n:Nat}(hv:aP n xs=true)(k:Int)(v:D)(hn:L3.bp n v=true):aP n (bR xs (.int k) v)=true:=by
 induction h with
 | nil=>simp [bR,aP,L3.bp,hn]
 | cons i w h ih =>
  simp only [aP,Bool.and_eq_true] at hv
  simp only [bR]
  split
  . simp [aP,hn,hv.1,hv.2.2]
  . simp [aP,hv.1,hv.2.1,ih hv.2.2]
theorem kH {xs:List D}(h:∀d∈xs,∃j:Int,d = .int j):aX xs=true/\bM xs=0:=by
 induction xs with
 | nil=>exact⟨rfl,rfl⟩
 | cons x xs ih =>
  obtain⟨j,rfl⟩:=h x (by simp)
  obtain⟨h1,h2⟩:=ih fun d hd=>h d (by simp [hd])
  exact⟨by simp [aX,flat,h1],by simp [bM,dep,h2]⟩
def uk (pick:Fn):FS:=aB (aq pick (aa (af 0) (aa (aN cZ (aa (fC (.int 1)) (aa (fC (.int 1)) (aa (fC (.int 2)) (aa (fC (.int 3)) (aa (fC (.int 0)) (aa (aN aG aj) (aa (aN aG (aa (fC (.int 1)) (aa (fC (.int 2)) aj))) (aa (hX fj (fC (.int 5))) aj))))))))) aj)))
structure Row where
 pt:Int
 k:Int
 h:Int
 dd:D
 b:Int
 e:Option Int
def Row.ls (r:Row):List D:=[.int r.h,r.dd,.int r.b,eD r.e]
def Row.d (r:Row):D:=.tup [.int r.pt,.int r.k,.tup r.ls]
def vals:List D:=[.int 1,.int 1,.int 2,.int 3,.int 0,.tup [],.tup [.int 1,.int 2],.int (-5)]
def fK (p:Int)(dd:D):Prop:=dd = .tup [.str "look"] \/ ∃q v,dd = .tup [.str "put",.int q,v]/\0<=q/\q<p/\v∈vals
theorem i4 {v:D}(h:v∈vals):v = .int 1\/v = .int 2\/v = .int 3\/v = .int 0\/v = .tup []\/v = .tup [.int 1,.int 2]\/v = .int (-5):=by
 simpa [vals] using h
theorem fK.told {p dd}(h:fK p dd):mQ p dd=true:=by
 rcases h with rfl | ⟨q,v,rfl,h0,h1,hv⟩
 . rfl
 . have:isVal 3 v=true:=by rcases i4 hv with rfl | rfl | rfl | rfl | rfl | rfl | rfl<;>decide
   simp [mQ,within,this];omega
theorem fK.nf {p dd}(h:fK p dd):nf dd=true:=by
 rcases h with rfl | ⟨q,v,rfl,h0,h1,hv⟩
 . rfl
 . rcases i4 hv with rfl | rfl | rfl | rfl | rfl | rfl | rfl<;>rfl
theorem fK.flat {p dd}(h:fK p dd):L3.flat dd=true/\dep dd<=3:=by
 rcases h with rfl | ⟨q,v,rfl,h0,h1,hv⟩
 . simp [L3.flat,aX,dep,bM]
 . rcases i4 hv with rfl | rfl | rfl | rfl | rfl | rfl | rfl<;>simp [L3.flat,aX,dep,bM]
theorem fK.bp {p dd}(h:fK p dd)(n:Nat):L3.bp n dd=true:=by
 rcases h with rfl | ⟨q,v,rfl,h0,h1,hv⟩
 . simp [L3.bp,aP]
 . rcases i4 hv with rfl | rfl | rfl | rfl | rfl | rfl | rfl<;>simp [L3.bp,aP]
structure j5 (p:Int)(r:Row):Prop where
 h0:0<=r.h
 h9:r.h<=9
 dd:fK p r.dd
 b0:0<=r.b
 eb:∀x,r.e=some x->r.b<x
 pa:4*r.b<r.pt
 pb:∀x,r.e=some x->r.pt<4*x
def After (r s:Row):Prop:=r.k<s.k/\r.b<=s.b/\(r.h=s.h->∃x,r.e=some x/\x<=s.b)
structure mj (p:Int)(i:Nat)(bg:Int)(rws:List Row)(op en:List D):Prop where
 g:∀r∈rws,j5 p r
 kk:∀r∈rws,0<=r.k/\r.k<i
 bb:∀r∈rws,r.b<=bg
 pw:rws.Pairwise After
 len:rws.length<=i
 io:d_ op
 ie:d_ en
 lo:op.length<=2*i
 le:en.length<=2*i
 ev:∀j d,bD en (.int j)=some d->∃x,d = .int x
 opn:∀r∈rws,r.e=none->(bD op (.int r.h)).isSome=true
 cl:∀r∈rws,∀x,r.e=some x->∃y,bD en (.int r.h)=some (.int y)/\x<=y
 bg0:0<=bg
 bg5:bg<=5*i
theorem mj.skip {p i bg bg' rws op en}(h:mj p i bg rws op en)(h1:bg<=bg')(h2:bg'<=bg+5):mj p (i+1) bg' rws op en:=by
 have:=h.len;have:=h.lo;have:=h.le;have:=h.bg0;have:=h.bg5
 exact⟨h.g,fun r hr=>⟨(h.kk r hr).1,by have:=(h.kk r hr).2;omega⟩,fun r hr=>Int.le_trans (h.bb r hr) h1,h.pw,by omega,h.io,h.ie,by omega,by omega,h.ev,h.opn,h.cl,by omega,by omega⟩
def wR (en:List D)(j:Int):Int:=match(bD en (.int j)).getD (.int 0) with
 | .int y=>y
 | _=>0
theorem mj.en {p i bg rws op en}(h:mj p i bg rws op en)(j:Int):(bD en (.int j)).getD (.int 0) = .int (wR en j):=by
 unfold wR
 cases e:bD en (.int j) with
 | none=>rfl
 | some d=>obtain⟨x,rfl⟩:=h.ev j d e;rfl
theorem mj.step {p i bg bg' rws op en}(h:mj p i bg rws op en)(h1:bg<=bg')(h2:bg'<=bg+5){one E pt:Int}{dd:D}{op':List D}(o0:0<=one)(o9:one<=9)(ho:bD op (.int one)=none)(hy:wR en one<=bg')(hE:bg' < E)(hpa:4*bg' < pt)(hpb:pt<4*E)(hd:fK p dd)(hop:op'=op\/op'=bR op (.int one) (.bl true)) :
   mj p (i+1) bg' (rws ++ [⟨pt,i,one,dd,bg',if(bD op' (.int one)).isSome then none else some E⟩]) op' (bR en (.int one) (.int E)):=by
 have hl:=h.len;have hlo:=h.lo;have hle:=h.le;have hb0:=h.bg0;have hb5:=h.bg5
 have mono:∀j,(bD op (.int j)).isSome=true->(bD op' (.int j)).isSome=true:=fun j hj=>by
   rcases hop with rfl | rfl
   . exact hj
   . rw [h.io.get];split
     . rfl
     . exact hj
 have old:∀r∈rws,r.h=one->∃x y,r.e=some x/\bD en (.int one)=some (.int y)/\x<=y/\y<=bg':=fun r hr e=>by
   cases he:r.e with
   | none =>
     have:=h.opn r hr he
     rw [e,ho] at this
     cases this
   | some x =>
     obtain⟨y,y1,y2⟩:=h.cl r hr x he
     rw [e] at y1
     refine⟨x,y,rfl,y1,y2,?_⟩
     simpa [wR,y1] using hy
 refine⟨fun r hr=>?_,fun r hr=>?_,fun r hr=>?_,?_,by simp;omega,?_,h.ie.put _ _,?_,?_,fun j d e=>?_,fun r hr e=>?_,fun r hr x e=>?_,by omega,by omega⟩
 . rcases List.mem_append.mp hr with hr | hr
   . exact h.g r hr
   . simp at hr
     subst hr
     exact⟨o0,o9,hd,by show 0<=bg';omega,fun x e=>by
       dsimp only at e
       split at e
       . cases e
       . cases e;exact hE,hpa,fun x e=>by
       dsimp only at e
       split at e
       . cases e
       . cases e;exact hpb⟩
 . rcases List.mem_append.mp hr with hr | hr
   . have:=h.kk r hr;exact⟨this.1,by omega⟩
   . simp at hr
     subst hr
     exact⟨by show(0:Int)<=(i:Int);omega,by show(i:Int)<((i+1:Nat):Int);omega⟩
 . rcases List.mem_append.mp hr with hr | hr
   . exact Int.le_trans (h.bb r hr) h1
   . simp at hr
     subst hr
     exact Int.le_refl _
 . rw [List.pairwise_append]
   refine⟨h.pw,by simp,fun r hr s hs=>?_⟩
   simp at hs
   subst hs
   refine⟨(h.kk r hr).2,Int.le_trans (h.bb r hr) h1,fun e=>?_⟩
   obtain⟨x,y,e1,_,e3,e4⟩:=old r hr e
   exact⟨x,e1,by show x<=bg';omega⟩
 . rcases hop with rfl | rfl
   . exact h.io
   . exact h.io.put _ _
 . rcases hop with rfl | rfl
   . omega
   . have:=h.io.len one (.bl true);omega
 . have:=h.ie.len one (.int E);omega
 . rw [h.ie.get] at e
   split at e
   . cases e;exact⟨_,rfl⟩
   . exact h.ev j d e
 . rcases List.mem_append.mp hr with hr | hr
   . exact mono _ (h.opn r hr e)
   . simp at hr
     subst hr
     dsimp only at e ⊢
     split at e
     . assumption
     . cases e
 . rw [h.ie.get]
   rcases List.mem_append.mp hr with hr | hr
   . split
     . rename_i e1
       obtain⟨x',y,e1,_,e3,e4⟩:=old r hr e1.symm
       rw [e] at e1
       cases e1
       exact⟨E,rfl,by omega⟩
     . exact h.cl r hr x e
   . simp at hr
     subst hr
     dsimp only at e ⊢
     split at e
     . cases e
     . cases e
       simp
def gn (f:Fn):Prop:=∀(n:Nat) (g:G) (B:Int),B<2 ^ 40->Hd g n B->∃d g',f [.ref n] g=some (d,g')/\d∈vals/\Hd g' n (B+1)/\Fr n g g'
theorem yH {p:Fn}(hp:eQ p):gn (az false 1 1 (uk p)):=fun n g B hB h=>by
 obtain⟨d,g',e,hd,h1,l1⟩:=hp n vals g B hB (by simp [vals]) (by simp [vals]) h
 refine⟨d,g',bL (σ':=[some (.ref n)]) rfl ?_ l1.1,hd,h1,l1⟩
 unfold vals at e
 simp [uk,e]
theorem gn.w {f:Fn}(h:gn f){n:Nat}{g:G}{B:Int}{Q:D×G->Prop}(hB:B<2 ^ 40)(hh:Hd g n B)(q:∀d g',d∈vals->Hd g' n (B+1)->Fr n g g'->Q (d,g')):wp (f [.ref n] g) Q:=by
 obtain⟨d,g',e,r0,h1,l1⟩:=h n g B hB hh
 exact⟨_,e,q d g' r0 h1 l1⟩
theorem dJ.a0 {g gg:G}{n:Nat}{B:Int}{x:List D}{cs:List (List D)}(m:dJ g gg n B (x::cs)):gg[g.length]? = some x:=m.at_ 0 (by simp)
theorem dJ.a1 {g gg:G}{n:Nat}{B:Int}{x y:List D}{cs:List (List D)}(m:dJ g gg n B (x::y::cs)):gg[g.length+1]? = some y:=m.at_ 1 (by simp)
theorem dJ.a2 {g gg:G}{n:Nat}{B:Int}{x y z:List D}{cs:List (List D)}(m:dJ g gg n B (x::y::z::cs)):gg[g.length+2]? = some z:=m.at_ 2 (by simp)
structure Rows (p:Int)(most:Nat)(rws:List Row):Prop where
 g:∀r∈rws,j5 p r
 pw:rws.Pairwise After
 len:rws.length<=most
 kk:∀r∈rws,0<=r.k/\r.k<1000
theorem Row.bp {p:Int}{r:Row}(h:j5 p r)(n:Nat):L3.bp n r.d=true:=by
 have:=h.dd.bp n
 obtain⟨pt,k,hh,dd,b,e⟩:=r
 cases e<;>simp [Row.d,Row.ls,L3.bp,aP,eD,this]
theorem iG:∀(n:Nat) (d:D),isVal n d=true->nf d=true /\ ∀m,bp m d=true
 | 0,d,h=>by
  unfold isVal jj within at h
  split at h
  . exact⟨rfl,fun _=>rfl⟩
  . cases h
 | n+1,d,h=>by
  cases d with
  | tup xs =>
    simp only [isVal,Bool.and_eq_true,List.all_eq_true] at h
    have:∀ys:List D,(∀y∈ys,isVal n y=true)->kX ys=true /\ ∀m,aP m ys=true:=fun ys=>by
     induction ys with
     | nil=>intro _;exact⟨rfl,fun _=>rfl⟩
     | cons y ys ih =>
      intro hy
      obtain⟨h1,h2⟩:=iG n y (hy y (by simp))
      obtain⟨h3,h4⟩:=ih fun z hz=>hy z (by simp [hz])
      exact⟨by simp [kX,h1,h3],fun m=>by simp [aP,h2 m,h4 m]⟩
    obtain⟨h1,h2⟩:=this xs h.2
    exact⟨by simpa [nf] using h1,fun m=>by simpa [bp] using h2 m⟩
  | _=>first | exact⟨rfl,fun _=>rfl⟩ | (simp [isVal,jj,within] at h)
theorem Dp {xs:List D}(h:∀x∈xs,nf x=true):kX xs=true:=by
 induction xs with
 | nil=>rfl
 | cons x xs ih=>simp [kX,h x (by simp),ih fun y hy=>h y (by simp [hy])]
theorem oX {p:Int}{d:D}(h:iL p d=true):nf d=true /\ ∀m,bp m d=true:=by
 unfold iL at h
 split at h
 . rename_i xs
   simp only [Bool.and_eq_true,List.all_eq_true] at h
   exact⟨by simpa [nf] using Dp fun x hx=>(iG 3 x (h.2 x hx)).1,fun m=>by simpa [bp] using cM fun x hx=>(iG 3 x (h.2 x hx)).2 m⟩
 . cases h
def St (p:Int)(st:List D):Prop:=(st.length:Int)=p /\ ∀x∈st,isVal 3 x=true
theorem St.B {p st}(h:St p st):iL p (.tup st)=true:=by
 simp only [iL,Bool.and_eq_true,decide_eq_true_eq,List.all_eq_true]
 exact h
theorem pJ {v:D}(h:v∈vals):isVal 3 v=true:=by rcases i4 h with rfl | rfl | rfl | rfl | rfl | rfl | rfl<;>decide
structure TI (p:Int)(done:List Row)(st tl:List D)(ks:List Int):Prop where
 st:St p st
 it:d_ tl
 tlen:tl.length<=2*done.length
 t1:∀j d,bD tl (.int j)=some d->iL p d=true /\ ∃r∈done,r.k=j/\bN r.dd=true/\r.e.isSome=true
 t2:∀r∈done,bN r.dd=true->r.e.isSome=true->(bD tl (.int r.k)).isSome=true
 klen:ks.length<=done.length
 kin:∀k∈ks,∃r∈done,r.k=k
def dB (st:List D):D->List D
 | .tup [.str _,.int c,v]=>st.take c.toNat++v::st.drop (c.toNat+1)
 | _=>st
theorem Row.flat {p:Int}{r:Row}(h:j5 p r):L3.flat r.d=true/\dep r.d<=6:=by
 obtain⟨h1,h2⟩:=h.dd.flat
 have he:L3.flat (eD r.e)=true/\dep (eD r.e)=0:=by cases r.e<;>exact⟨rfl,rfl⟩
 constructor
 . simp [Row.d,Row.ls,L3.flat,aX,h1,he.1]
 . simp [Row.d,Row.ls,dep,bM,he.2];omega
theorem Row.aX {p:Int}{rws:List Row}(h:∀r∈rws,j5 p r):L3.aX (rws.map Row.d)=true/\bM (rws.map Row.d)<=6:=by
 induction rws with
 | nil=>exact⟨rfl,by simp [bM]⟩
 | cons r rs ih =>
  obtain⟨h1,h2⟩:=Row.flat (h r (by simp))
  obtain⟨h3,h4⟩:=ih fun s hs=>h s (by simp [hs])
  exact⟨by simp [L3.aX,h1,h3],by simp [bM];omega⟩
theorem Row.lt {p:Int}{r s:Row}(hr:j5 p r)(h:r.k=s.k->r=s):(ltN r.d s.d).isSome=true:=by
 by_cases e1:r.pt=s.pt
 . by_cases e2:r.k=s.k
   . have:=h e2
     subst this
     have fl:=(Row.flat hr).1
     have fl2:L3.flat (.tup r.ls)=true:=by
      simp [Row.d,L3.flat,L3.aX] at fl
      simpa [L3.flat] using fl
     have:=eh _ fl2
     simp [Row.d,ltN,oi,fP,this]
   . simp [Row.d,ltN,oi,fP,e1,e2]
 . simp [Row.d,ltN,oi,fP,e1]
structure Told (p:Int)(rws:List Row)(pY:Row->D):Prop where
 t:∀r∈rws,if bN r.dd&&r.e.isSome then iL p (pY r)=true else pY r = .non
def rt (x:Row×D):D:=.tup [.int x.1.h,x.1.dd,.int x.1.b,eD x.1.e,x.2]
structure bJ (p:Int)(x:Row×D):Prop where
 r:j5 p x.1
 t:if bN x.1.dd&&x.1.e.isSome then iL p x.2=true else x.2 = .non
theorem bJ.row {p:Int}{x:Row×D}(h:bJ p x):lq p (rt x)=true:=by
 have h1:=h.r.dd.told
 have h2:=h.r.h0
 have h3:=h.r.h9
 have h4:=h.r.b0
 have h5:=h.t
 have tm:jl (.int x.1.b) (eD x.1.e)=true:=by
   have:=h.r.eb
   cases e:x.1.e with
   | none=>simp [jl,eD,h4]
   | some y=>have:=this y e;simp [jl,eD,h4,this]
 have nn:dU (eD x.1.e) = !x.1.e.isSome:=by cases x.1.e<;>rfl
 simp only [rt,lq,within,h1,tm,nn,Bool.not_not,h2,h3,decide_true,Bool.and_self,Bool.true_and]
 split
 . rename_i z;rw [if_pos z] at h5;exact h5
 . rename_i z;rw [if_neg z] at h5;rw [h5];rfl
theorem bJ.nf {p:Int}{x:Row×D}(h:bJ p x):Pd.nf (rt x)=true:=by
 have h1:=h.r.dd.nf
 have h5:=h.t
 have h2:Pd.nf (eD x.1.e)=true:=by cases x.1.e<;>rfl
 have h3:Pd.nf x.2=true:=by
  split at h5
  . exact(oX h5).1
  . rw [h5];rfl
 simp [rt,Pd.nf,kX,h1,h2,h3]
theorem dH {α:Type}{f h:α->D}{t:FG}{c:FT}{e:FE}(I:Sg->Prop):∀(xs:List α) (σ:Sg) (g:G),I σ->(∀x∈xs,∀σ,I σ->∃σ1,t (f x) σ g=some (σ1,g)/\c σ1 g=some (true,g)/\e σ1 g=some (h x,g)/\I σ1)->bZ t c e (xs.map f) σ g=some (xs.map h,g)
 | [],_,_,_,_=>rfl
 | x::xs,σ,g,hi,hh=>by
  obtain⟨σ1,h1,h2,h3,h4⟩:=hh x List.mem_cons_self σ hi
  have ih:=dH I xs σ1 g h4 fun x hx=>hh x (List.mem_cons_of_mem _ hx)
  simp only [List.map_cons,bZ,h1,h2,h3,Option.bind_some,if_true,ih]
end Pd
namespace Od
open PySem L3 L2 RI Pd
def qj:FS:=aB (ao bS (aN aG (aa (fC (.int 0)) aj)) (af 0))
def nT:FS:=aB (i6 (ao oEq (ao aw (ao aw (af 0) (fC (.int 1))) (fC (.int 0))) (fC (.str "put"))) (ao oEq (ao aw (af 0) (fC (.int 4))) (af 1)))
def jW:FS:=av (aF (ao aw (af 0) (fC (.int 1))) (gN 2)) (av (bH (aH (ao oEq (ao aw (af 2) (fC (.int 0))) (fC (.str "look")))) (aB (af 1)) aL) (aB (ao aM (ao aM (cz (af 1) cA (bQ (ao aw (af 2) (fC (.int 1))))) (aN aG (aa (ao aw (af 2) (fC (.int 2))) aj))) (cz (af 1) (bQ (ao aM (ao aw (af 2) (fC (.int 1))) (fC (.int 1)))) cA))))
def wV (within:Fn):FS:=aB (aq dw (aa (bA bB (bW (af 1)) [none,none,some 0] (gN 1) bq (aq within (aa (af 1) (aa (fC (.int 0)) (aa (ao (aK aW (· - ·)) (aq bP (aa (af 2) aj)) (fC (.int 1))) aj))))) aj))
abbrev Rt:=Row×D
def zs (p:Int):List D:=List.replicate p.toNat (.int 0)
def x0:Rt:=⟨⟨0,0,0,.non,0,none⟩,.non⟩
def ay (xs:List Rt)(k:Nat):Rt:=xs.getD k x0
def kD (ks:List Nat):List D:=ks.map fun(k:Nat)=>D.int k
theorem kQ:∀(n:Nat) (d:D),isVal n d=true->flat d=true/\dep d<=n
 | 0,d,h=>by
  unfold isVal jj within at h
  split at h
  . exact⟨rfl,Nat.le_refl _⟩
  . cases h
 | n+1,d,h=>by
  cases d with
  | tup xs =>
    simp only [isVal,Bool.and_eq_true,List.all_eq_true] at h
    have:∀ys:List D,(∀y∈ys,isVal n y=true)->aX ys=true/\bM ys<=n:=fun ys=>by
     induction ys with
     | nil=>intro _;exact⟨rfl,by simp [bM]⟩
     | cons y ys ih =>
      intro hy
      obtain⟨h1,h2⟩:=kQ n y (hy y (by simp))
      obtain⟨h3,h4⟩:=ih fun z hz=>hy z (by simp [hz])
      exact⟨by simp [aX,h1,h3],by simp [bM];omega⟩
    obtain⟨h1,h2⟩:=this xs h.2
    exact⟨by simpa [flat] using h1,by simp [dep];omega⟩
  | _=>first | exact⟨rfl,by simp [dep]⟩ | (simp [isVal,jj,within] at h)
theorem j7 {n:Nat}{xs:List D}(h:∀x∈xs,flat x=true/\dep x<=n):aX xs=true/\bM xs<=n:=by
 induction xs with
 | nil=>exact⟨rfl,by simp [bM]⟩
 | cons y ys ih =>
  obtain⟨h1,h2⟩:=h y (by simp)
  obtain⟨h3,h4⟩:=ih fun z hz=>h z (by simp [hz])
  exact⟨by simp [aX,h1,h3],by simp [bM];omega⟩
theorem St.flat {p:Int}{st:List D}(h:St p st):L3.flat (.tup st)=true/\dep (.tup st)<=4:=by
 obtain⟨h1,h2⟩:=j7 fun x hx=>kQ 3 x (h.2 x hx)
 exact⟨by simpa [L3.flat] using h1,by simp [dep];omega⟩
theorem vf {p:Int}{d:D}(h:iL p d=true):L3.flat d=true/\dep d<=4:=by
 unfold iL at h
 split at h
 . simp only [Bool.and_eq_true,decide_eq_true_eq,List.all_eq_true] at h
   exact St.flat (p:=p) h
 . cases h
theorem bJ.rh {p:Int}{x:Rt}(h:bJ p x):L3.flat x.2=true/\dep x.2<=4:=by
 have:=h.t
 split at this
 . exact vf this
 . rw [this];exact⟨rfl,by simp [dep]⟩
theorem St.zs {p:Int}(h:0<=p):St p (zs p):=⟨by simp [Od.zs];omega,fun x hx=>by
 obtain⟨_,rfl⟩:=List.mem_replicate.mp hx
 decide⟩
theorem St.put {p:Int}{st:List D}{dd:D}(h:St p st)(hd:fK p dd):St p (dB st dd):=by
 rcases hd with rfl | ⟨c,v,rfl,c0,c1,hv⟩
 . exact h
 . have hl:=h.1
   refine⟨by simp [dB];omega,fun x hx=>?_⟩
   simp only [dB] at hx
   rcases List.mem_append.mp hx with hx | hx
   . exact h.2 x (List.mem_of_mem_take hx)
   . rcases List.mem_cons.mp hx with rfl | hx
     . exact pJ hv
     . exact h.2 x (List.mem_of_mem_drop hx)
def jG (p:Int)(f:Fn):Prop:=∀g,f [.int p] g=some (.tup (zs p),g)
theorem uZ {p:Int}(h0:0<=p)(h1:p<=100):jG p (az false 1 1 qj):=fun g=>by
 refine bL (σ':=[some (.int p)]) rfl ?_ rfl
 have mz:bS (.tup [.int 0]) (.int p) g=some (.tup (zs p),g):=by
  rw [BN (by omega) (by omega) (by simp)]
  simp [zs]
 simp [qj,mz]
def fZ (x:Rt)(st:List D):Bool:=!(bN x.1.dd)||aA x.2 (.tup st)
theorem sZ:¬(Str.ofString "put" = Str.ofString "look"):=by decide
theorem Fe:¬(Str.ofString "look" = Str.ofString "put"):=by decide
def iX (p:Int)(f:Fn):Prop:=∀x st g,bJ p x->St p st->f [rt x,.tup st] g=some (.bl (fZ x st),g)
theorem zE {p:Int}:iX p (az false 2 2 nT):=fun x st g hx hs=>by
 refine bL (σ':=[some (rt x),some (.tup st)]) rfl ?_ rfl
 obtain⟨f1,f2⟩:=bJ.rh hx
 obtain⟨f3,f4⟩:=St.flat hs
 have f2':dep x.2<=60:=by omega
 have oe:oEq x.2 (.tup st) g=some (.bl (aA x.2 (.tup st)),g):=by unfold oEq;simp [f1,f3,f2']
 unfold fZ
 rcases hx.r.dd with hd | ⟨c,v,hd,c0,c1,hv⟩
 . simp [nT,rt,hd,el,eV,ip,eq_str,flat,dep,Fe,bN,oe,f1,f3,f2']
 . simp [nT,rt,hd,el,eV,ip,eq_str,flat,dep,sZ,bN]
def iA (p:Int)(f:Fn):Prop:=∀x st g,bJ p x->St p st->f [rt x,.tup st] g=some (.tup (dB st x.1.dd),g)
theorem td {p:Int}(hp:p<=100):iA p (az false 3 2 jW):=fun x st g hx hs=>by
 refine bL (σ':=[some (rt x),some (.tup st),some x.1.dd]) rfl ?_ rfl
 have hl2:=hs.1
 rcases hx.r.dd with hd | ⟨c,v,hd,c0,c1,hv⟩
 . simp [jW,rt,hd,el,eV,eq_str,flat,dep,dB]
 . obtain⟨cn,rfl⟩:∃cn:Nat,c=cn:=⟨c.toNat,by omega⟩
   have hcl:cn<st.length:=by omega
   have s1:dA (.tup st) none (some (cn:Int)) g=some (.tup (st.take cn),g):=fA (ky hcl)
   have s2:dA (.tup st) (some ((cn:Int)+1)) none g=some (.tup (st.drop (cn+1)),g):=fA (lA hcl)
   have y1:aD (min cn st.length+1)=true:=a_ (by omega)
   have y2:aD (min cn st.length+1+(st.length-(cn+1)))=true:=a_ (by omega)
   simp [jW,rt,hd,el,eV,sg,eq_str,flat,dep,sZ,dB,s1,s2,y1,y2]
def uL (n:Nat)(d:D):Bool:=within d 0 ((n:Int)-1)
def qH (f:Fn):Prop:=∀ss ts g,(∀t∈ts,isFn t=false)->ts.length<=1000->f [.tup ss,.tup ts] g=some (.bl (ts.all (uL ss.length)),g)
theorem A0 {w:Fn}(hw:iB w):qH (az false 2 2 (wV w)):=fun ss ts g ht hl=>by
 refine bL (σ':=[some (.tup ss),some (.tup ts)]) rfl ?_ rfl
 have hz:aD ts.length=true:=a_ (by omega)
 have c1:=fT (t:=gN 1) (c:=bq) (e:=aq w (aa (af 1) (aa (fC (.int 0)) (aa (ao (aK aW (· - ·)) (aq bP (aa (af 2) aj)) (fC (.int 1))) aj)))) (h:=fun o=>D.bl (uL ss.length o)) (fun σ=>∃o,σ = [none,o,some (.tup ss)]) ts [none,none,some (.tup ss)] g ⟨_,rfl⟩ (by
  rintro d hm σ ⟨o,rfl⟩
  refine⟨[none,some d,some (.tup ss)],by simp,by simp,?_,⟨_,rfl⟩⟩
  simp [hw d _ _ g (ht d hm),uL])
 have sb:bu [none,none,some 0] [some (D.tup ss),some (D.tup ts)] = [none,none,some (D.tup ss)]:=rfl
 simp [wV,sb,c1,hz,dy]
theorem lB (ks:List Nat):aX (kD ks)=true/\bM (kD ks)=0:=kH fun d hd=>by
 obtain⟨k,_,rfl⟩:=List.mem_map.mp hd
 exact⟨_,rfl⟩
theorem lE (xs:List Rt):b6 (xs.map rt)=xs.zipIdx.map fun y=>.tup [.int (y.2:Nat),rt y.1]:=by
 simp [b6,List.zipIdx_map,Function.comp_def]
theorem eB {α:Type}{f h:α->D}{t:FG}{c:FT}{e:FE}{cB:α->Bool}(I:Sg->Prop):∀(xs:List α) (σ:Sg) (g:G),I σ->(∀x∈xs,∀σ,I σ->∃σ1,t (f x) σ g=some (σ1,g)/\c σ1 g=some (cB x,g)/\(cB x=true->e σ1 g=some (h x,g))/\I σ1)->bZ t c e (xs.map f) σ g=some ((xs.filter cB).map h,g)
 | [],_,_,_,_=>rfl
 | d::ds,σ,g,hi,hh=>by
  obtain⟨σ1,h1,h2,h3,h4⟩:=hh d List.mem_cons_self σ hi
  have ih:=eB I ds σ1 g h4 fun x hx=>hh x (List.mem_cons_of_mem _ hx)
  cases hc:cB d with
  | true =>
   rw [hc] at h2
   simp only [List.map_cons,bZ,h1,h2,h3 hc,Option.bind_some,if_true,ih,List.filter_cons,hc]
  | false =>
   rw [hc] at h2
   simp only [List.map_cons,bZ,h1,h2,Option.bind_some,Bool.false_eq_true,if_false,ih,List.filter_cons,hc]
def eA (x y:Rt):Bool:=Pd.la (rt x) (rt y)
theorem B_ (x y:Rt):eA x y=match x.1.e with | some e=>decide (e<=y.1.b) | none=>false:=by
 have e1:eI (rt x)=x.1.e:=by cases he:x.1.e<;>simp [rt,eI,he,eD]
 have e2:bI (rt y)=y.1.b:=rfl
 unfold eA Pd.la
 rw [e1,e2]
 try (cases x.1.e<;>first | rfl | (exact decide_eq_decide.mpr Iff.rfl))
theorem pI {xs:List Rt}{k:Nat}(h:k<xs.length):(xs.map rt)[k]? = some (rt (ay xs k)):=by
 simp [ay,h]
theorem cF {xs:List Rt}{k:Nat}(h:k<xs.length):ay xs k∈xs:=by simp [ay,h]
end Od
namespace Od
open PySem L3 L2 RI Pd PyProof.Rows
def toN:D->Nat
 | .int i=>i.toNat
 | _=>0
theorem mD (ds:List Int):dE (ds.map D.int)=some ds:=by
 induction ds with
 | nil=>rfl
 | cons d ds ih=>simp [dE,ih]
end Od
namespace Od
open PySem L3 L2 RI Pd
def dN:FS:=fJ 5 6 (aa (ao bS (aN aG (aa (fC (.int 0)) aj)) (af 0)) (aa (aN mkRef aj) aj))
theorem bJ.pY {p:Int}{x:Rt}(h:bJ p x):x.2 = .non \/ ∃st,x.2 = .tup st/\St p st/\(bN x.1.dd&&x.1.e.isSome)=true:=by
 have ht:=h.t
 split at ht
 . rename_i hc
   unfold iL at ht
   split at ht
   . rename_i st e
     simp only [Bool.and_eq_true,decide_eq_true_eq,List.all_eq_true] at ht
     exact .inr ⟨st,e,ht,hc⟩
   . cases ht
 . exact .inl ht
theorem bJ.DB {p:Int}{x:Rt}(h:bJ p x):L3.flat (rt x)=true/\dep (rt x)<=6:=by
 obtain⟨h1,h2⟩:=h.r.dd.flat
 obtain⟨h3,h4⟩:=bJ.rh h
 have he:L3.flat (eD x.1.e)=true/\dep (eD x.1.e)=0:=by cases x.1.e<;>exact⟨rfl,rfl⟩
 constructor
 . simp [rt,L3.flat,L3.aX,h1,he.1,h3]
 . simp [rt,dep,bM,he.2];omega
theorem wx {p:Int}{xs:List Rt}(h:∀x∈xs,bJ p x):L3.aX (xs.map rt)=true/\bM (xs.map rt)<=6:=j7 fun d hd=>by
 obtain⟨x,hx,rfl⟩:=List.mem_map.mp hd
 exact bJ.DB (h x hx)
theorem bJ.bp {p:Int}{x:Rt}(h:bJ p x)(n:Nat):L3.bp n (rt x)=true:=by
 have h1:=h.r.dd.bp n
 have h2:L3.bp n (eD x.1.e)=true:=by cases x.1.e<;>rfl
 have h3:L3.bp n x.2=true:=by
  have ht:=h.t
  split at ht
  . exact(oX ht).2 n
  . rw [ht];rfl
 simp [rt,L3.bp,aP,h1,h2,h3]
theorem lD {p:Int}{xs:List Rt}(h:∀x∈xs,bJ p x)(n:Nat):aP n (xs.map rt)=true:=cM fun d hd=>by
 obtain⟨x,hx,rfl⟩:=List.mem_map.mp hd
 exact bJ.bp (h x hx) n
end Od
namespace Sd
open PySem L3 L2 RI Pd Od
abbrev aC:=Nat×List D
def early (xs:List Rt)(k:Nat):List Nat:=(List.range xs.length).filter fun o=>eA (ay xs o) (ay xs k)
def dQ (xs:List Rt)(r:aC)(k:Nat):Bool:=!r.1.testBit k&&(((early xs k).all fun o=>r.1.testBit o)&&fZ (ay xs k) r.2)
def b_ (xs:List Rt)(r:aC)(k:Nat):aC:=(r.1 ||| 1 <<< k,dB r.2 (ay xs k).1.dd)
inductive Path (xs:List Rt)(p:Int):List Nat->aC->Prop
 | nil:Path xs p [] (0,zs p)
 | snoc {ks r k}:Path xs p ks r->k<xs.length->dQ xs r k=true->Path xs p (ks ++ [k]) (b_ xs r k)
theorem x5 {xs:List Rt}{r:aC}{k i:Nat}:(b_ xs r k).1.testBit i=(r.1.testBit i||decide (i=k)):=by
 unfold b_
 rw [Nat.testBit_or,Nat.one_shiftLeft,Nat.testBit_two_pow]
 congr 1
 exact decide_eq_decide.mpr eq_comm
theorem Path.bits {xs p ks r}(h:Path xs p ks r):∀i,r.1.testBit i=ks.contains i:=by
 induction h with
 | nil=>intro i;simp
 | snoc h hk hc ih =>
  intro i
  rw [x5,ih]
  simp
theorem Path.lt {xs p ks r}(h:Path xs p ks r):∀k∈ks,k<xs.length:=by
 induction h with
 | nil=>intro k hk;cases hk
 | snoc h hk hc ih =>
  intro k' hk'
  rcases List.mem_append.mp hk' with h' | h'
  . exact ih k' h'
  . simp at h';subst h';exact hk
def eR (xs:List Rt)(b:Nat):Bool:=xs.zipIdx.all fun y=>y.1.1.e.isNone||b.testBit y.2
theorem jZ {α:Type}:∀{V W:List α},V.Nodup->(∀v∈V,v∈W)->V.length<=W.length
 | [],_,_,_=>Nat.zero_le _
 | v::V,W,hn,h=>by
  rw [List.nodup_cons] at hn
  obtain⟨a,b,rfl⟩:=List.append_of_mem (h v (by simp))
  have:=jZ (V:=V) (W:=a++b) hn.2 fun w hw=>by
   have:=h w (by simp [hw])
   rcases List.mem_append.mp this with h1 | h1
   . simp [h1]
   . rcases List.mem_cons.mp h1 with rfl | h1
     . exact absurd hw hn.1
     . simp [h1]
  simp at this ⊢
  omega
def bT:Nat->(Nat->Nat)->Nat
 | 0,_=>0
 | n+1,T=>bT n T ||| (if T n=0 then 0 else 1 <<< n)
theorem tZ (T:Nat->Nat)(i:Nat):∀n,(bT n T).testBit i=(decide (i<n)&&decide (T i≠0))
 | 0=>by simp [bT]
 | n+1=>by
  simp only [bT]
  rw [Nat.testBit_or,tZ T i n]
  by_cases e:i=n
  . subst e
    by_cases h:T i=0<;>simp [h,Nat.one_shiftLeft,Nat.testBit_two_pow]
  . have h1:(decide (i<n+1))=decide (i<n):=decide_eq_decide.mpr (by omega)
    rw [h1]
    have h2:¬n=i:=fun z=>e z.symm
    by_cases h:T n=0<;>simp [h,Nat.one_shiftLeft,Nat.testBit_two_pow,h2]
theorem gw (a b:Nat):Builtin.bitAnd (a:Int) (b:Int)=((a &&& b:Nat):Int):=by
 have h1:decide ((0:Int)<=(a:Int))=true:=by simp
 have h2:decide ((0:Int)<=(b:Int))=true:=by simp
 unfold Builtin.bitAnd
 rw [h1,h2]
 simp
theorem yQ (a b:Nat):Builtin.bitOr (a:Int) (b:Int)=((a ||| b:Nat):Int):=by
 have e:∀x:Nat,(Builtin.bitNot (Builtin.bitNot (x:Int))).toNat=x:=fun x=>by unfold Builtin.bitNot;omega
 have h1:∀x:Nat,decide ((0:Int)<=Builtin.bitNot (x:Int))=false:=fun x=>by unfold Builtin.bitNot;simp;omega
 unfold Builtin.bitOr
 have:Builtin.bitAnd (Builtin.bitNot (a:Int)) (Builtin.bitNot (b:Int))=Builtin.bitNot (((a ||| b:Nat):Nat):Int):=by
  unfold Builtin.bitAnd
  rw [h1,h1,e,e]
 rw [this]
 unfold Builtin.bitNot
 omega
def bF (n:Nat)(f:Nat->Bool):Nat:=bT n fun i=>if f i then 1 else 0
theorem i0 (f:Nat->Bool)(i n:Nat):(bF n f).testBit i=(decide (i<n)&&f i):=by
 unfold bF
 rw [tZ]
 cases f i<;>simp
theorem En (f:Nat->Bool)(n:Nat):bF n f<2 ^ n:=Nat.lt_pow_two_of_testBit _ fun i hi=>by
 rw [i0]
 have:¬i<n:=by omega
 simp [this]
theorem iu (f:Nat->Bool):∀n,((((List.range n).filter f).map fun k=>(2:Nat) ^ k).sum)=bF n f
 | 0=>rfl
 | n+1=>by
  rw [List.range_succ,List.filter_append,List.map_append,List.sum_append,iu f n]
  have hl:=En f n
  have e:bF (n+1) f=bF n f ||| (if f n then 1 <<< n else 0):=by
   unfold bF
   simp only [bT]
   by_cases hfn:f n=true<;>simp [hfn]
  rw [e]
  cases hf:f n with
  | false=>simp [hf]
  | true =>
   have:=Nat.two_pow_add_eq_or_of_lt hl 1
   simp only [Nat.mul_one] at this
   rw [Nat.one_shiftLeft]
   simp [hf]
   rw [Nat.add_comm,this,Nat.or_comm]
theorem ly (b k:Nat):(b &&& 2 ^ k=0) ↔ b.testBit k=false:=by
 constructor
 . intro h
   have:=congrArg (fun x=>x.testBit k) h
   simpa [Nat.testBit_and,Nat.testBit_two_pow] using this
 . intro h
   refine Nat.eq_of_testBit_eq fun i=>?_
   rw [Nat.testBit_and,Nat.testBit_two_pow]
   by_cases e:k=i
   . subst e;simp [h]
   . simp [e]
theorem zF (a b:Nat):(b &&& a=a) ↔ ∀i,a.testBit i=true->b.testBit i=true:=by
 constructor
 . intro h i hi
   rw [<- h,Nat.testBit_and] at hi
   simp at hi
   exact hi.1
 . intro h
   refine Nat.eq_of_testBit_eq fun i=>?_
   rw [Nat.testBit_and]
   cases hi:a.testBit i with
   | false=>simp
   | true=>simp [h i hi]
theorem uM (f:Nat->Bool)(b n:Nat):(b &&& bF n f=bF n f) ↔ ((List.range n).filter f).all (fun i=>b.testBit i)=true:=by
 rw [zF,List.all_eq_true]
 constructor
 . intro h i hi
   obtain⟨h1,h2⟩:=List.mem_filter.mp hi
   exact h i (by rw [i0];simp [List.mem_range.mp h1,h2])
 . intro h i hi
   rw [i0] at hi
   simp at hi
   exact h i (List.mem_filter.mpr ⟨List.mem_range.mpr hi.1,hi.2⟩)
def kq:FS:=aB (aq iz (aa (bA bB (bW (af 0)) [none,none] (gN 1) bq (ao (aK bY (fun i j=>i*2 ^ j.toNat)) (fC (.int 1)) (af 1))) aj))
def oU (bits:Fn):FS:=aB (aq bits (aa (bA bB (eK (af 0)) [none,none,none] (gT 2 (ax (gN 1) (ax (gN 2) aY))) (aH (ao cU (ao aw (af 2) (fC (.int 3))) (fC .non))) (af 1)) aj))
theorem j_ {k:Nat}(h:k<=1000):bY 1 (k:Int)=true:=by
 show(Nat.ble k 1000000&&Nat.ble (1:Int).natAbs 18446744073709551615)=true
 rw [Nat.ble_eq.mpr (by omega:k<=1000000)]
 decide
theorem nF (ks:List Nat):(ks.map fun k=>((2 ^ k:Nat):Int)).sum=(((ks.map fun k=>2 ^ k).sum:Nat):Int):=by
 induction ks with
 | nil=>rfl
 | cons k ks ih=>simp only [List.map_cons,List.sum_cons,ih];omega
def jb (f:Fn):Prop:=∀ks g,(∀k∈ks,k<=1000)->ks.length<=1000->f [.lst (kD ks)] g=some (.int (((ks.map fun k=>2 ^ k).sum:Nat):Int),g)
theorem zr:jb (az false 1 1 kq):=fun ks g hk hl=>by
 refine bL (σ':=[some (.lst (kD ks))]) rfl ?_ rfl
 have hz:aD ks.length=true:=a_ (by omega)
 have kl:(kD ks).length=ks.length:=by simp [kD]
 have c1:=dH (f:=fun(i:Nat)=>D.int i) (t:=gN 1) (c:=bq) (e:=ao (aK bY (fun i j=>i*2 ^ j.toNat)) (fC (.int 1)) (af 1)) (h:=fun(i:Nat)=>D.int ((2 ^ i:Nat):Int)) (fun σ=>∃a,σ = [none,a]) ks [none,none] g ⟨_,rfl⟩ (by
  rintro i hm σ ⟨a,rfl⟩
  refine⟨[none,some (.int i)],by simp,by simp,?_,⟨_,rfl⟩⟩
  have:=j_ (hk i hm)
  simp [aK,this])
 have c2:bZ (gN 1) bq (ao (aK bY (fun i j=>i*2 ^ j.toNat)) (fC (.int 1)) (af 1)) (kD ks) [none,none] g=some ((ks.map fun k=>((2 ^ k:Nat):Int)).map D.int,g):=by rw [List.map_map];exact c1
 have sb:∀σ:Sg,bu [none,none] σ = [none,none]:=fun _=>rfl
 have i1:=mD (ks.map fun k=>((2 ^ k:Nat):Int))
 rw [<- nF]
 generalize (ks.map fun k=>((2 ^ k:Nat):Int))=ns at *
 simp [kq,sb,c2,kl,hz,i1]
theorem rG {f:Rt->Bool}(xs:List Rt):(xs.zipIdx.filter fun y=>f y.1).map (·.2)=(List.range xs.length).filter fun i=>f (ay xs i):=by
 have:xs.zipIdx=(List.range xs.length).map fun i=>(ay xs i,i):=by
  refine List.ext_getElem (by simp) fun i h1 h2=>?_
  have hi:i<xs.length:=by simpa using h1
  simp [ay,hi]
 rw [this,List.filter_map,List.map_map]
 simp [Function.comp_def]
def fH (xs:List Rt):Nat:=bF xs.length fun i=>(ay xs i).1.e.isSome
def mY (f:Fn):Prop:=∀xs g,xs.length<=100->f [.tup (xs.map rt)] g=some (.int (fH xs),g)
theorem C7 {b:Fn}(hb:jb b):mY (az false 1 1 (oU b)):=fun xs g hl=>by
 refine bL (σ':=[some (.tup (xs.map rt))]) rfl ?_ rfl
 have hz:aD (b6 (xs.map rt)).length=true:=a_ (by simp [b6];omega)
 have c1:=eB (f:=fun y:Rt×Nat=>.tup [.int (y.2:Nat),rt y.1]) (t:=gT 2 (ax (gN 1) (ax (gN 2) aY))) (c:=aH (ao cU (ao aw (af 2) (fC (.int 3))) (fC .non))) (e:=af 1) (cB:=fun y=>y.1.1.e.isSome) (h:=fun y=>D.int (y.2:Nat)) (fun σ=>∃a b,σ = [none,a,b]) xs.zipIdx [none,none,none] g ⟨_,_,rfl⟩ (by
  rintro⟨y,i⟩ hm σ ⟨a,b,rfl⟩
  refine⟨[none,some (.int i),some (rt y)],by simp,?_,fun _=>by simp,⟨_,_,rfl⟩⟩
  cases he:y.1.e<;>simp [rt,wo,he,eD,isLit,cP])
 rw [<- lE] at c1
 have sb:∀σ:Sg,bu [none,none,none] σ = [none,none,none]:=fun _=>rfl
 have e2:(xs.zipIdx.filter fun y=>y.1.1.e.isSome).map (fun y=>D.int (y.2:Nat))=kD ((List.range xs.length).filter fun i=>(ay xs i).1.e.isSome):=by
  rw [<- rG (f:=fun x=>x.1.e.isSome)]
  simp [kD,Function.comp_def]
 rw [e2] at c1
 have hb1:=hb ((List.range xs.length).filter fun i=>(ay xs i).1.e.isSome) g (fun k hk=>by
  have:=List.mem_range.mp (List.mem_filter.mp hk).1
  omega) (by have:=List.length_filter_le (fun i=>(ay xs i).1.e.isSome) (List.range xs.length);simp at this;omega)
 rw [iu] at hb1
 generalize kD ((List.range xs.length).filter fun i=>(ay xs i).1.e.isSome)=kk at *
 simp [oU,sb,c1,hz,hb1,fH]
theorem p6 (xs:List Rt)(b:Nat):(b &&& fH xs=fH xs) ↔ eR xs b=true:=by
 unfold fH
 rw [uM]
 unfold eR
 have:xs.zipIdx=(List.range xs.length).map fun i=>(ay xs i,i):=by
  refine List.ext_getElem (by simp) fun i h1 h2=>?_
  have hi:i<xs.length:=by simpa using h1
  simp [ay,hi]
 rw [this,List.all_filter,List.all_map]
 have e:(fun i=>!(ay xs i).1.e.isSome||b.testBit i)=((fun y:Rt×Nat=>y.1.1.e.isNone||b.testBit y.2) ∘ fun i=>(ay xs i,i)):=by
  funext i
  cases h:(ay xs i).1.e<;>simp [h]
 rw [e]
def rD (r:aC):D:=.tup [.int (r.1:Nat),.tup r.2]
def dY (xs:List Rt)(i:Nat):D:=.tup [.int (i:Nat),.int ((bF xs.length fun o=>eA (ay xs o) (ay xs i):Nat):Int),rt (ay xs i)]
def dk (xs:List Rt):List D:=(List.range xs.length).map (dY xs)
def xg (ahead:Fn):FS:=aF (bA bB (eK (af 0)) [none,none,none,some 3] (gT 2 (ax (gN 1) (ax (gN 2) aY))) (bO (aq ahead (aa (af 2) (aa (af 3) aj)))) (af 1)) (gN 4)
def xD (bits:Fn):FS:=dG (dP isRef cx (af 1) (aa (aN aG (aa (af 2) (aa (aq bits (aa (af 4) aj)) (aa (af 3) aj)))) aj))
def kB (ahead bits:Fn):FS:=av (aF (aN mkRef aj) (gN 1)) (av (ed (eK (af 0)) (gT 2 (ax (gN 2) (ax (gN 3) aY))) (av (xg ahead) (xD bits))) (aB (af 1)))
theorem tG (xs:List Rt):xs.zipIdx=(List.range xs.length).map fun i=>(ay xs i,i):=by
 refine List.ext_getElem (by simp) fun i h1 h2=>?_
 have hi:i<xs.length:=by simpa using h1
 simp [ay,hi]
theorem qt (xs:List Rt):b6 (xs.map rt)=(List.range xs.length).map fun i=>.tup [.int (i:Nat),rt (ay xs i)]:=by
 rw [lE,tG,List.map_map]
 rfl
theorem CN {ah:Fn}{p:Int}(ha:hJ p ah){xs:List Rt}{g:G}{o1 o2 o4:Option D}(hx:∀x∈xs,bJ p x)(hl:xs.length<=100){k:Nat}(hk:k<xs.length) :
  xg ah [some (.tup (xs.map rt)),o1,o2,some (rt (ay xs k)),o4] g=some (.nx,[some (.tup (xs.map rt)),o1,o2,some (rt (ay xs k)),some (.lst (kD (early xs k)))],g):=by
 have hz:aD (b6 (xs.map rt)).length=true:=a_ (by simp [b6];omega)
 have c1:=eB (f:=fun i:Nat=>.tup [.int (i:Nat),rt (ay xs i)]) (t:=gT 2 (ax (gN 1) (ax (gN 2) aY))) (c:=bO (aq ah (aa (af 2) (aa (af 3) aj)))) (e:=af 1) (cB:=fun i=>eA (ay xs i) (ay xs k)) (h:=fun(i:Nat)=>D.int i) (fun σ=>∃a b,σ = [none,a,b,some (rt (ay xs k))]) (List.range xs.length) [none,none,none,some (rt (ay xs k))] g ⟨_,_,rfl⟩ (by
  rintro i hm σ ⟨a,b,rfl⟩
  have:=ha (rt (ay xs i)) (rt (ay xs k)) g (hx _ (cF (List.mem_range.mp hm))).row (hx _ (cF hk)).row
  refine⟨[none,some (.int i),some (rt (ay xs i)),some (rt (ay xs k))],by simp,?_,fun _=>by simp,⟨_,_,rfl⟩⟩
  simp [this,eA])
 rw [<- qt] at c1
 have sb:∀a b c:Option D,bu [none,none,none,some 3] [a,b,c,some (rt (ay xs k)),o4] = [none,none,none,some (rt (ay xs k))]:=fun _ _ _=>rfl
 have c2:bZ (gT 2 (ax (gN 1) (ax (gN 2) aY))) (bO (aq ah (aa (af 2) (aa (af 3) aj)))) (af 1) (b6 (xs.map rt)) [none,none,none,some (rt (ay xs k))] g=some (kD (early xs k),g):=c1
 simp [xg,sb,c2,hz]
theorem wG {ah bi:Fn}{p:Int}(ha:hJ p ah)(hb:jb bi){xs:List Rt}{g:G}(hx:∀x∈xs,bJ p x)(hl:xs.length<=100):∀(rest:List Nat) (acc:List D) (o2 o3 o4:Option D),(∀k∈rest,k<xs.length)->acc.length+rest.length<=200 ->
  ∃σ',σ'[1]? = some (some (.ref g.length))/\forL (gT 2 (ax (gN 2) (ax (gN 3) aY))) (av (xg ah) (xD bi)) (rest.map fun i=>.tup [.int (i:Nat),rt (ay xs i)]) [some (.tup (xs.map rt)),some (.ref g.length),o2,o3,o4] (g ++ [acc])=some (.nx,σ',g ++ [acc++rest.map (dY xs)])
 | [],acc,o2,o3,o4,_,_=>⟨[some (.tup (xs.map rt)),some (.ref g.length),o2,o3,o4],rfl,by simp [forL]⟩
 | k::rest,acc,o2,o3,o4,h,hs=>by
  have hk:=h k (by simp)
  have e1:=CN ha (g:=g ++ [acc]) (o1:=some (.ref g.length)) (o2:=some (.int k)) (o4:=o4) hx hl hk
  have hll:(early xs k).length<=100:=by
   have:=List.length_filter_le (fun o=>eA (ay xs o) (ay xs k)) (List.range xs.length)
   simp at this
   unfold early
   omega
  have e2:=hb (early xs k) (g ++ [acc]) (fun j hj=>by
   have:=List.mem_range.mp (List.mem_filter.mp hj).1
   omega) (by omega)
  have e3:((early xs k).map fun k=>2 ^ k).sum=bF xs.length fun o=>eA (ay xs o) (ay xs k):=iu _ _
  rw [e3] at e2
  have hz:aD (acc.length+1)=true:=a_ (by simp at hs;omega)
  obtain⟨σ',s1,ih⟩:=wG ha hb (g:=g) hx hl rest (acc ++ [dY xs k]) (some (.int k)) (some (rt (ay xs k))) (some (.lst (kD (early xs k)))) (fun j hj=>h j (by simp [hj])) (by simp at hs ⊢;omega)
  refine⟨σ',s1,?_⟩
  have e4:xD bi [some (.tup (xs.map rt)),some (.ref g.length),some (.int k),some (rt (ay xs k)),some (.lst (kD (early xs k)))] (g ++ [acc])=some (.nx,[some (.tup (xs.map rt)),some (.ref g.length),some (.int k),some (rt (ay xs k)),some (.lst (kD (early xs k)))],g ++ [acc ++ [dY xs k]]):=by
   simp [xD,e2,hz,dY]
  rw [show acc++(k::rest).map (dY xs)=(acc ++ [dY xs k])++rest.map (dY xs) by simp,<- ih]
  simp [forL,e1,e4]
def j9 (p:Int)(f:Fn):Prop:=∀xs g,(∀x∈xs,bJ p x)->xs.length<=100->Clean g->f [.tup (xs.map rt)] g=some (.lst (dk xs),g)
theorem y3 {ah bi:Fn}{p:Int}(ha:hJ p ah)(hb:jb bi):j9 p (az false 5 1 (kB ah bi)):=fun xs g hx hl hc=>by
 have key:wp (az false 5 1 (kB ah bi) [.tup (xs.map rt)] g) fun r=>r=(.lst (dk xs),g):=by
  refine lM rfl ?_
  obtain⟨σ',s1,e⟩:=wG ha hb (g:=g) hx hl (List.range xs.length) [] none none none (fun k hk=>List.mem_range.mp hk) (by simp;omega)
  rw [<- qt,List.nil_append] at e
  have e':kB ah bi [some (.tup (xs.map rt)),none,none,none,none] g=some (.rt (.ref g.length),σ',g ++ [dk xs]):=by
   simp [kB,e,s1,dk]
  refine⟨_,e',g.length,dk xs,rfl,Nat.le_refl _,by simp,cM fun d hd=>?_,by simpa using hc.all _,by simp⟩
  obtain⟨k,hk,rfl⟩:=List.mem_map.mp hd
  have:=bJ.bp (hx _ (cF (List.mem_range.mp hk))) g.length
  simp [dY,bp,aP,this]
 obtain⟨r,e,rfl⟩:=key
 exact e
def tY:FS:=aF (ao (aK bY (fun i j=>i*2 ^ j.toNat)) (fC (.int 1)) (af 4)) (gN 7)
def nk (fits:Fn):FT:=eY (aH (ao oEq (ao (aK aW Builtin.bitAnd) (af 1) (af 7)) (fC (.int 0)))) (eY (aH (ao oEq (ao (aK aW Builtin.bitAnd) (af 1) (af 5)) (af 5))) (bO (aq fits (aa (af 6) (aa (af 2) aj)))))
def tE (behind:Fn):FS:=dG (dP isRef cx (af 3) (aa (aN aG (aa (af 4) (aa (aN aG (aa (ao (aK aW Builtin.bitOr) (af 1) (af 7)) (aa (aq behind (aa (af 6) (aa (af 2) aj))) aj))) aj))) aj))
def jq (fits behind:Fn):FS:=av (aF (aN mkRef aj) (gN 3)) (av (ed (bW (af 0)) (gT 3 (ax (gN 4) (ax (gN 5) (ax (gN 6) aY)))) (av tY (bH (nk fits) (tE behind) aL))) (aB (af 3)))
def gh (xs:List Rt)(r:aC)(k:Nat):D:=.tup [.int (k:Nat),rD (b_ xs r k)]
def ji (xs:List Rt)(r:aC):List D:=((List.range xs.length).filter (dQ xs r)).map (gh xs r)
abbrev S8 (xs:List Rt)(r:aC)(m:Nat)(o4 o5 o6 o7:Option D):Sg:=[some (.lst (dk xs)),some (.int (r.1:Nat)),some (.tup r.2),some (.ref m),o4,o5,o6,o7]
theorem Ar {xs:List Rt}{r:aC}{m k:Nat}{g:G}{o5 o6 o7:Option D}(hk:k<=1000):tY (S8 xs r m (some (.int k)) o5 o6 o7) g=some (.nx,S8 xs r m (some (.int k)) o5 o6 (some (.int ((2 ^ k:Nat):Int))),g):=by
 have:=j_ hk
 simp [tY,aK,this]
theorem A_ {fi:Fn}{p:Int}(hf:iX p fi){xs:List Rt}{r:aC}{m k:Nat}{g:G}(hx:∀x∈xs,bJ p x)(hs:St p r.2)(hk:k<xs.length) :
  nk fi (S8 xs r m (some (.int k)) (some (.int ((bF xs.length fun o=>eA (ay xs o) (ay xs k):Nat):Int))) (some (rt (ay xs k))) (some (.int ((2 ^ k:Nat):Int)))) g=some (dQ xs r k,g):=by
 have e1:=hf (ay xs k) r.2 g (hx _ (cF hk)) hs
 have a1:=gw r.1 (2 ^ k)
 have a2:=gw r.1 (bF xs.length fun o=>eA (ay xs o) (ay xs k))
 have c1:decide (((r.1 &&& 2 ^ k:Nat):Int)=0) = !r.1.testBit k:=by
  cases h:r.1.testBit k with
  | false=>have:=(ly r.1 k).mpr h;rw [this];rfl
  | true =>
   simp only [Bool.not_true,decide_eq_false_iff_not]
   intro z
   have z':r.1 &&& 2 ^ k=0:=by omega
   rw [(ly r.1 k).mp z'] at h
   cases h
 have c2:decide (((r.1 &&& (bF xs.length fun o=>eA (ay xs o) (ay xs k)):Nat):Int)=((bF xs.length fun o=>eA (ay xs o) (ay xs k):Nat):Int))=((early xs k).all fun o=>r.1.testBit o):=by
  have:=uM (fun o=>eA (ay xs o) (ay xs k)) r.1 xs.length
  cases h:((early xs k).all fun o=>r.1.testBit o) with
  | true =>
   have:=this.mpr h
   rw [this];simp
  | false =>
   simp only [decide_eq_false_iff_not]
   intro z
   have z':r.1 &&& (bF xs.length fun o=>eA (ay xs o) (ay xs k))=bF xs.length fun o=>eA (ay xs o) (ay xs k):=by omega
   rw [show(early xs k).all (fun o=>r.1.testBit o)=true from this.mp z'] at h
   cases h
 generalize (bF xs.length fun o=>eA (ay xs o) (ay xs k))=bb at *
 have q1:oEq (.int ((r.1 &&& 2 ^ k:Nat):Int)) (.int 0) g=some (.bl (!r.1.testBit k),g):=by
  unfold oEq
  rw [fP,c1]
  simp [flat,dep]
 have q2:oEq (.int ((r.1 &&& bb:Nat):Int)) (.int (bb:Int)) g=some (.bl ((early xs k).all fun o=>r.1.testBit o),g):=by
  unfold oEq
  rw [fP,c2]
  simp [flat,dep]
 unfold dQ
 generalize ((early xs k).all fun o=>r.1.testBit o)=b2 at *
 generalize (r.1 &&& bb)=ab at *
 generalize (r.1 &&& 2 ^ k)=ak at *
 generalize 2 ^ k=tk at *
 cases h1:r.1.testBit k with
 | true=>rw [h1] at q1;simp [nk,aK,aW,a1,q1]
 | false =>
  rw [h1] at q1
  cases b2 with
  | false =>
   have c2':=of_decide_eq_false c2
   simp [nk,aK,aW,a1,q1,a2,c2']
  | true =>
   have c2':=of_decide_eq_true c2
   cases h3:fZ (ay xs k) r.2<;>rw [h3] at e1<;>simp [nk,aK,aW,a1,q1,a2,c2',e1]
theorem qY {fi be:Fn}{p:Int}(hf:iX p fi)(hb:iA p be){xs:List Rt}{r:aC}{g:G}(hx:∀x∈xs,bJ p x)(hl:xs.length<=100)(hs:St p r.2):∀(rest:List Nat) (acc:List D) (o4 o5 o6 o7:Option D),(∀k∈rest,k<xs.length)->acc.length+rest.length<=200 ->
  ∃σ',σ'[3]? = some (some (.ref g.length))/\forL (gT 3 (ax (gN 4) (ax (gN 5) (ax (gN 6) aY)))) (av tY (bH (nk fi) (tE be) aL)) (rest.map (dY xs)) (S8 xs r g.length o4 o5 o6 o7) (g ++ [acc])=some (.nx,σ',g ++ [acc++(rest.filter (dQ xs r)).map (gh xs r)])
 | [],acc,o4,o5,o6,o7,_,_=>⟨S8 xs r g.length o4 o5 o6 o7,rfl,by simp [forL]⟩
 | k::rest,acc,o4,o5,o6,o7,h,hsz=>by
  have hk:=h k (by simp)
  have e1:=Ar (xs:=xs) (r:=r) (m:=g.length) (g:=g ++ [acc]) (o5:=some (.int ((bF xs.length fun o=>eA (ay xs o) (ay xs k):Nat):Int))) (o6:=some (rt (ay xs k))) (o7:=o7) (show k<=1000 by omega)
  have e2:=A_ hf (m:=g.length) (g:=g ++ [acc]) hx hs hk
  have e3:=hb (ay xs k) r.2 (g ++ [acc]) (hx _ (cF hk)) hs
  have hz:aD (acc.length+1)=true:=a_ (by simp at hsz;omega)
  have bo:=yQ r.1 (2 ^ k)
  have tg:gT 3 (ax (gN 4) (ax (gN 5) (ax (gN 6) aY))) (dY xs k) (S8 xs r g.length o4 o5 o6 o7) (g ++ [acc])=some (S8 xs r g.length (some (.int k)) (some (.int ((bF xs.length fun o=>eA (ay xs o) (ay xs k):Nat):Int))) (some (rt (ay xs k))) o7,g ++ [acc]):=by
   simp [dY]
  generalize hbb:(bF xs.length fun o=>eA (ay xs o) (ay xs k))=bb at *
  cases hc:dQ xs r k with
  | false =>
   rw [hc] at e2
   obtain⟨σ',s1,ih⟩:=qY hf hb (g:=g) hx hl hs rest acc (some (.int k)) (some (.int (bb:Int))) (some (rt (ay xs k))) (some (.int ((2 ^ k:Nat):Int))) (fun j hj=>h j (by simp [hj])) (by simp at hsz;omega)
   refine⟨σ',s1,?_⟩
   rw [List.filter_cons,hc,if_neg (by simp),<- ih,List.map_cons]
   simp only [forL,tg,Option.bind_some,dh,e1,fw,e2]
   simp
  | true =>
   rw [hc] at e2
   obtain⟨σ',s1,ih⟩:=qY hf hb (g:=g) hx hl hs rest (acc ++ [gh xs r k]) (some (.int k)) (some (.int (bb:Int))) (some (rt (ay xs k))) (some (.int ((2 ^ k:Nat):Int))) (fun j hj=>h j (by simp [hj])) (by simp at hsz ⊢;omega)
   refine⟨σ',s1,?_⟩
   have e4:tE be (S8 xs r g.length (some (.int k)) (some (.int (bb:Int))) (some (rt (ay xs k))) (some (.int ((2 ^ k:Nat):Int)))) (g ++ [acc])=some (.nx,S8 xs r g.length (some (.int k)) (some (.int (bb:Int))) (some (rt (ay xs k))) (some (.int ((2 ^ k:Nat):Int))),g ++ [acc ++ [gh xs r k]]):=by
    generalize h2k:2 ^ k=tk at *
    have ey:gh xs r k = .tup [.int (k:Nat),.tup [.int ((r.1 ||| tk:Nat):Int),.tup (dB r.2 (ay xs k).1.dd)]]:=by
     simp [gh,rD,b_,Nat.one_shiftLeft,h2k]
    rw [ey]
    simp [tE,aK,aW,bo,e3,hz]
   rw [List.filter_cons,hc,if_pos rfl,show acc++(k::rest.filter (dQ xs r)).map (gh xs r)=(acc ++ [gh xs r k])++(rest.filter (dQ xs r)).map (gh xs r) by simp,<- ih,List.map_cons]
   simp only [forL,tg,Option.bind_some,dh,e1,fw,e2,e4]
   simp [e4]
def fX (p:Int)(f:Fn):Prop:=∀xs r g,(∀x∈xs,bJ p x)->xs.length<=100->St p r.2->Clean g->f [.lst (dk xs),.int (r.1:Nat),.tup r.2] g=some (.lst (ji xs r),g)
theorem nK {p:Int}{st:List D}(h:St p st)(n:Nat):bp n (.tup st)=true:=(oX (St.B h)).2 n
theorem vb {fi be:Fn}{p:Int}(hf:iX p fi)(hb:iA p be):fX p (az false 8 3 (jq fi be)):=fun xs r g hx hl hs hc=>by
 have key:wp (az false 8 3 (jq fi be) [.lst (dk xs),.int (r.1:Nat),.tup r.2] g) fun q=>q=(.lst (ji xs r),g):=by
  refine lM rfl ?_
  obtain⟨σ',s1,e⟩:=qY hf hb (g:=g) hx hl hs (List.range xs.length) [] none none none none (fun k hk=>List.mem_range.mp hk) (by simp;omega)
  rw [List.nil_append] at e
  have e0:forL (gT 3 (ax (gN 4) (ax (gN 5) (ax (gN 6) aY)))) (av tY (bH (nk fi) (tE be) aL)) (dk xs) [some (.lst (dk xs)),some (.int (r.1:Nat)),some (.tup r.2),some (.ref g.length),none,none,none,none] (g ++ [[]])=some (.nx,σ',g ++ [ji xs r]):=e
  have e':jq fi be [some (.lst (dk xs)),some (.int (r.1:Nat)),some (.tup r.2),none,none,none,none,none] g=some (.rt (.ref g.length),σ',g ++ [ji xs r]):=by
   simp [jq,e0,s1]
  refine⟨_,e',g.length,ji xs r,rfl,Nat.le_refl _,by simp,cM fun d hd=>?_,by simpa using hc.all _,by simp⟩
  obtain⟨k,hk,rfl⟩:=List.mem_map.mp hd
  have hk':=List.mem_range.mp (List.mem_filter.mp hk).1
  have h1:=nK (St.put hs (hx _ (cF hk')).r.dd) g.length
  simp [bp] at h1
  simp [gh,rD,b_,bp,aP,h1]
 obtain⟨q,e,rfl⟩:=key
 exact e
theorem lL {d:D}(h:jj d=true):∃i:Int,d = .int i:=by
 unfold jj within at h
 split at h
 . exact⟨_,rfl⟩
 . cases h
theorem jD {P:D->Prop}(h:∀d e,P d->P e->(aA d e=true ↔ d=e)):∀(xs ys:List D),(∀x∈xs,P x)->(∀y∈ys,P y)->(cv xs ys=true ↔ xs=ys)
 | [],[],_,_=>by simp [cv]
 | [],_::_,_,_=>by simp [cv]
 | _::_,[],_,_=>by simp [cv]
 | x::xs,y::ys,h1,h2=>by
  have ih:=jD h xs ys (fun z hz=>h1 z (by simp [hz])) (fun z hz=>h2 z (by simp [hz]))
  have h0:=h x y (h1 x (by simp)) (h2 y (by simp))
  show(aA x y&&cv xs ys)=true ↔ _
  rw [Bool.and_eq_true,h0,ih,List.cons.injEq]
theorem iU {xs ys:List D}:aA (.tup xs) (.tup ys)=cv xs ys:=by simp only [aA]
theorem Ct {i:Int}{ys:List D}:aA (.int i) (.tup ys)=false:=by simp [aA]
theorem BS {i:Int}{ys:List D}:aA (.tup ys) (.int i)=false:=by simp [aA]
theorem gI {n:Nat}{d:D}(h:isVal (n+1) d=true):(∃i:Int,d = .int i) \/ ∃xs,d = .tup xs /\ ∀x∈xs,isVal n x=true:=by
 cases d with
 | tup xs =>
  simp only [isVal,Bool.and_eq_true,List.all_eq_true] at h
  exact .inr ⟨xs,rfl,h.2⟩
 | int i=>exact .inl ⟨i,rfl⟩
 | _=>simp [isVal,jj,within] at h
theorem lO:∀(n:Nat) (d e:D),isVal n d=true->isVal n e=true->(aA d e=true ↔ d=e)
 | 0,d,e,h1,h2=>by
  obtain⟨i,rfl⟩:=lL h1
  obtain⟨j,rfl⟩:=lL h2
  rw [fP];simp
 | n+1,d,e,h1,h2=>by
  rcases gI h1 with⟨i,rfl⟩ | ⟨xs,rfl,hx⟩<;>rcases gI h2 with⟨j,rfl⟩ | ⟨ys,rfl,hy⟩
  . rw [fP];simp
  . rw [Ct];simp
  . rw [BS];simp
  . rw [iU,jD (P:=fun d=>isVal n d=true) (fun d e=>lO n d e) xs ys hx hy];simp
theorem pL:∀(n m:Nat) (d:D),isVal n d=true->n<=m->bh (m+1) d=true
 | 0,m,d,h,_=>by obtain⟨i,rfl⟩:=lL h;simp [bh]
 | n+1,m,d,h,hm=>by
  rcases gI h with⟨i,rfl⟩ | ⟨xs,rfl,hx⟩
  . simp [bh]
  . obtain⟨m',rfl⟩:∃m',m=m'+1:=⟨m-1,by omega⟩
    have:∀ys:List D,(∀y∈ys,isVal n y=true)->di (m'+1) ys=true:=fun ys=>by
     induction ys with
     | nil=>intro _;simp [di]
     | cons y ys ih=>intro hy;simp [di,pL n m' y (hy y (by simp)) (by omega),ih fun z hz=>hy z (by simp [hz])]
    simpa [bh] using this xs hx
def Rm (p:Int)(r:aC):Prop:=St p r.2
theorem qR {p:Int}{r s:aC}(hr:Rm p r)(hs:Rm p s):aA (rD r) (rD s)=true ↔ r=s:=by
 obtain⟨b,st⟩:=r
 obtain⟨c,su⟩:=s
 have h1:=jD (P:=fun d=>isVal 3 d=true) (fun d e=>lO 3 d e) st su hr.2 hs.2
 have e1:aA (rD (b,st)) (rD (c,su))=(decide ((b:Int)=(c:Int))&&cv st su):=by
   show aA (.tup [.int (b:Nat),.tup st]) (.tup [.int (c:Nat),.tup su])=_
   rw [iU]
   show(aA (.int (b:Nat)) (.int (c:Nat))&&(aA (.tup st) (.tup su)&&cv [] []))=_
   rw [fP,iU]
   simp [cv]
 rw [e1,Bool.and_eq_true,h1,decide_eq_true_eq,Prod.mk.injEq]
 constructor
 . rintro⟨h2,h3⟩;exact⟨by omega,h3⟩
 . rintro⟨rfl,rfl⟩;exact⟨rfl,rfl⟩
theorem g0 {p:Int}{r:aC}(hr:Rm p r):bh 6 (rD r)=true:=by
 have:∀ys:List D,(∀y∈ys,isVal 3 y=true)->di 4 ys=true:=fun ys=>by
  induction ys with
  | nil=>intro _;simp [di]
  | cons y ys ih=>intro hy;simp [di,pL 3 3 y (hy y (by simp)) (by omega),ih fun z hz=>hy z (by simp [hz])]
 simp [rD,bh,di,this r.2 hr.2]
def dR:List (aC×D)->List D
 | []=>[]
 | e::r=>rD e.1::e.2::dR r
theorem sF (es:List (aC×D)):(dR es).length=2*es.length:=by
 induction es with
 | nil=>rfl
 | cons e es ih=>simp [dR,ih];omega
theorem qo (es:List (aC×D)):aO (dR es)=es.map fun e=>rD e.1:=by
 induction es with
 | nil=>rfl
 | cons e es ih=>simp [dR,aO,ih]
theorem ll {p:Int}:∀{es:List (aC×D)} {r:aC},(∀e∈es,Rm p e.1)->Rm p r->(∀e∈es,e.1≠r)->bD (dR es) (rD r)=none /\ ∀v,bR (dR es) (rD r) v=dR (es ++ [(r,v)])
 | [],r,_,_,_=>⟨rfl,fun _=>rfl⟩
 | e::es,r,h1,h2,h3=>by
  obtain⟨i1,i2⟩:=ll (es:=es) (r:=r) (fun x hx=>h1 x (by simp [hx])) h2 (fun x hx=>h3 x (by simp [hx]))
  have:aA (rD e.1) (rD r)=false:=by
    cases hq:aA (rD e.1) (rD r) with
    | false=>rfl
    | true=>exact absurd ((qR (h1 e (by simp)) h2).mp hq) (h3 e (by simp))
  constructor
  . simp only [dR,bD,this,Bool.false_eq_true,if_false,i1]
  . intro v
    simp only [dR,bR,this,Bool.false_eq_true,if_false,i2,List.cons_append]
theorem i_ {p:Int}:∀{es:List (aC×D)} {r:aC} {v:D},(∀e∈es,Rm p e.1)->(es.map (·.1)).Nodup->(r,v)∈es->bD (dR es) (rD r)=some v
 | e::es,r,v,h1,hn,hm=>by
  rw [List.map_cons,List.nodup_cons] at hn
  simp only [dR,bD]
  by_cases hq:e.1=r
  . subst hq
    rw [if_pos ((qR (h1 e (by simp)) (h1 e (by simp))).mpr rfl)]
    rcases List.mem_cons.mp hm with he | hm
    . rw [<- he]
    . exact absurd (List.mem_map.mpr ⟨_,hm,rfl⟩) hn.1
  . have hm':(r,v)∈es:=by
      rcases List.mem_cons.mp hm with rfl | hm
      . exact absurd rfl hq
      . exact hm
    rw [if_neg (fun z=>hq ((qR (h1 e (by simp)) (h1 _ (by simp [hm']:(r,v)∈e::es))).mp z))]
    exact i_ (fun x hx=>h1 x (by simp [hx])) hn.2 hm'
def qu:FT:=aH (ao cU (ao aw (af 0) (af 1)) (fC .non))
def xW:FS:=dG (dP isRef cx (af 2) (aa (ao aw (ao aw (af 0) (af 1)) (fC (.int 0))) aj))
def xx:FS:=aF (ao aw (ao aw (af 0) (af 1)) (fC (.int 1))) (gN 1)
def A4:FS:=aB (lj (af 2))
def mU:FS:=av (aF (aN mkRef aj) (gN 2)) (av (i5 1000000 qu (av xW xx)) A4)
def first (p:Int):aC:=(0,zs p)
structure cG (xs:List Rt)(p:Int)(es:List (aC×D)):Prop where
 rm:∀e∈es,Rm p e.1
 nd:(es.map (·.1)).Nodup
 at_:∀(i:Nat) (e:aC×D),es[i]? = some e->(e=(first p,D.non)) \/ ∃(j:Nat) (r':aC) (v':D) (k:Nat),j<i/\es[j]? = some (r',v')/\k<xs.length/\dQ xs r' k=true/\e=(b_ xs r' k,D.tup [D.int (k:Nat),rD r'])
theorem Ae {xs:List Rt}{p:Int}{es:List (aC×D)}(C:cG xs p es){g:G}{m:Nat}(hm:g[m]? = some (dR es)):∀(i:Nat) (e:aC×D),es[i]? = some e->∃ks,Path xs p ks e.1/\ks.length<=i /\ ∀(f:Nat) (acc:List D),i<f->acc.length+i<=16000000->∃σ',σ'[2]? = some (some (.ref g.length))/\gA qu (av xW xx) f [some (.aQ m),some (rD e.1),some (.ref g.length)] (g ++ [acc])=some (.nx,σ',g ++ [acc++(kD ks).reverse]):=by
 intro i
 induction i using Nat.strongRecOn with
 | ind i ih =>
 intro e he
 have hml:m<g.length:=(List.getElem?_eq_some_iff.mp hm).1
 have hma:∀acc:List D,(g ++ [acc])[m]? = some (dR es):=fun acc=>by rw [List.getElem?_append_left hml];exact hm
 have hem:e∈es:=List.mem_of_getElem? he
 have hk:=g0 (C.rm e hem)
 have hg:bD (dR es) (rD e.1)=some e.2:=i_ C.rm C.nd hem
 rcases C.at_ i e he with e0 | ⟨j,r',v',k,hj,hj2,hkn,hc,e1⟩
 . refine⟨[],by rw [e0];exact Path.nil,by simp,fun f acc hf _=>?_⟩
   obtain⟨f,rfl⟩:∃f',f=f'+1:=⟨f-1,by omega⟩
   refine⟨[some (.aQ m),some (rD e.1),some (.ref g.length)],rfl,?_⟩
   have h2:e.2 = .non:=by rw [e0]
   have ht:qu [some (.aQ m),some (rD e.1),some (.ref g.length)] (g ++ [acc])=some (false,g ++ [acc]):=by
    simp [qu,hma,hk,hg,h2,isLit,cP]
   simp [gA,ht,kD]
 . obtain⟨ks,p1,p2,p3⟩:=ih j hj (r',v') hj2
   subst e1
   refine⟨ks ++ [k],Path.snoc p1 hkn hc,by simp;omega,fun f acc hf hs=>?_⟩
   obtain⟨f,rfl⟩:∃f',f=f'+1:=⟨f-1,by omega⟩
   obtain⟨σ',s1,s2⟩:=p3 f (acc ++ [.int (k:Nat)]) (by omega) (by simp;omega)
   refine⟨σ',s1,?_⟩
   have ht:qu [some (.aQ m),some (rD (b_ xs r' k)),some (.ref g.length)] (g ++ [acc])=some (true,g ++ [acc]):=by
    simp [qu,hma,hk,hg,isLit,cP]
   have hz:aD (acc.length+1)=true:=by unfold aD;exact decide_eq_true (by omega)
   have ha:xW [some (.aQ m),some (rD (b_ xs r' k)),some (.ref g.length)] (g ++ [acc])=some (.nx,[some (.aQ m),some (rD (b_ xs r' k)),some (.ref g.length)],g ++ [acc ++ [.int (k:Nat)]]):=by
    simp [xW,hma,hk,hg,el,hz]
   have hr:xx [some (.aQ m),some (rD (b_ xs r' k)),some (.ref g.length)] (g ++ [acc ++ [.int (k:Nat)]])=some (.nx,[some (.aQ m),some (rD r'),some (.ref g.length)],g ++ [acc ++ [.int (k:Nat)]]):=by
    simp [xx,hma,hk,hg,eV]
   rw [show acc++(kD (ks ++ [k])).reverse=(acc ++ [.int (k:Nat)])++(kD ks).reverse by simp [kD],<- s2]
   simp [gA,ht,ha,hr]
def mX (xs:List Rt)(p:Int)(f:Fn):Prop:=∀es g m e,cG xs p es->es.length<=900000->g[m]? = some (dR es)->e∈es->g.all (aP g.length)=true->∃ks,Path xs p ks e.1/\f [.aQ m,rD e.1] g=some (.tup (kD ks),g)
theorem CK {xs:List Rt}{p:Int}:mX xs p (az false 3 2 mU):=fun es g m e C hl hm he hc=>by
 obtain⟨i,hi⟩:=List.mem_iff_getElem?.mp he
 have hil:=(List.getElem?_eq_some_iff.mp hi).1
 obtain⟨ks,p1,p2,p3⟩:=Ae C hm i e hi
 obtain⟨σ',s1,s2⟩:=p3 1000000 [] (by omega) (by simp;omega)
 refine⟨ks,p1,?_⟩
 have key:wp (az false 3 2 mU [.aQ m,rD e.1] g) fun q=>q=(.tup (kD ks),g):=by
  refine fW rfl ?_
  rw [List.nil_append] at s2
  have hz:aD (kD ks).reverse.length=true:=by unfold aD;exact decide_eq_true (by simp [kD];omega)
  have hx:A4 σ' (g ++ [(kD ks).reverse])=some (.rt (.tup (kD ks)),σ',g ++ [(kD ks).reverse]):=by
   simp only [A4,lz]
   unfold lj
   simp only [qi,s1,Option.bind_some,gH]
   have hz':aD (kD ks).length=true:=by simpa using hz
   simp [hz']
  have e':mU [some (.aQ m),some (rD e.1),none] g=some (.rt (.tup (kD ks)),σ',g ++ [(kD ks).reverse]):=by
   simp [mU,i5,s2,hx]
  refine⟨_,e',by simpa [bp] using (cM fun x hx'=>by obtain⟨k,_,rfl⟩:=List.mem_map.mp hx';rfl:aP g.length (kD ks)=true),by simpa using hc,by simp,by simp⟩
 obtain⟨q,e',rfl⟩:=key
 exact e'
def keys (es:List (aC×D)):List aC:=es.map (·.1)
theorem cG.path {xs:List Rt}{p:Int}{es:List (aC×D)}(C:cG xs p es):∀(i:Nat) (e:aC×D),es[i]? = some e->∃ks,Path xs p ks e.1:=by
 intro i
 induction i using Nat.strongRecOn with
 | ind i ih =>
 intro e he
 rcases C.at_ i e he with e0 | ⟨j,r',v',k,hj,hj2,hkn,hc,e1⟩
 . exact⟨[],by rw [e0];exact Path.nil⟩
 . obtain⟨ks,p1⟩:=ih j hj (r',v') hj2
   exact⟨ks ++ [k],by rw [e1];exact Path.snoc p1 hkn hc⟩
theorem cG.add {xs:List Rt}{p:Int}{es:List (aC×D)}(C:cG xs p es)(hx:∀x∈xs,bJ p x){r:aC}{k:Nat}(hr:r∈keys es)(hk:k<xs.length)(hc:dQ xs r k=true)(hn:b_ xs r k ∉ keys es):cG xs p (es ++ [(b_ xs r k,.tup [.int (k:Nat),rD r])]):=by
 obtain⟨e,he,rfl⟩:=List.mem_map.mp hr
 refine⟨fun e' h'=>?_,?_,fun i e' h'=>?_⟩
 . rcases List.mem_append.mp h' with h' | h'
   . exact C.rm e' h'
   . simp at h';subst h';exact St.put (C.rm e he) (hx _ (cF hk)).r.dd
 . rw [List.map_append,List.nodup_append]
   refine⟨C.nd,by simp,fun a ha b hb z=>?_⟩
   simp at hb
   subst hb;subst z
   exact hn ha
 . by_cases hi:i<es.length
   . rw [List.getElem?_append_left hi] at h'
     rcases C.at_ i e' h' with h0 | ⟨j,r',v',k',h1,h2,h3⟩
     . exact .inl h0
     . exact .inr ⟨j,r',v',k',h1,by rw [List.getElem?_append_left (by omega)];exact h2,h3⟩
   . rw [List.getElem?_append_right (by omega)] at h'
     have hi2:i-es.length=0:=by
       have:=(List.getElem?_eq_some_iff.mp h').1
       simp at this;omega
     rw [hi2] at h'
     simp at h'
     obtain⟨j,hj⟩:=List.mem_iff_getElem?.mp he
     have hjl:=(List.getElem?_eq_some_iff.mp hj).1
     exact .inr ⟨j,e.1,e.2,k,by omega,by rw [List.getElem?_append_left hjl];exact hj,hk,hc,h'.symm⟩
def oF:FS:=bH (aH (ao hZ (af 9) (af 5))) (av (aF (aN aG (aa (af 8) (aa (af 7) aj))) (f7 (af 5) (af 9))) (dG (dP isRef cx (af 6) (aa (af 9) aj)))) aL
abbrev cK (p:Int)(xs:List Rt)(n:Nat)(c7 c8 c9:Option D):Sg:=[some (.int p),some (.tup (xs.map rt)),some (.lst (dk xs)),some (.int (fH xs:Nat)),some (rD (first p)),some (.aQ n),some (.ref (n+1)),c7,c8,c9]
structure iC (es es':List (aC×D))(S S':List aC):Prop where
 ln:es'.length+S.length=es.length+S'.length
 sub:∀v∈keys es,v∈keys es'
 old:∀v∈keys es',v∈keys es\/v∈S'
 st:∀v∈S,v∈S'
 ss:∀v∈S',v∈S\/v∈keys es'
theorem iC.refl {es:List (aC×D)}{S:List aC}:iC es es S S:=⟨rfl,fun _ h=>h,fun _ h=>.inl h,fun _ h=>h,fun _ h=>.inl h⟩
theorem iC.trans {a b c:List (aC×D)}{S T U:List aC}(h1:iC a b S T)(h2:iC b c T U):iC a c S U:=by
 have l1:=h1.ln
 have l2:=h2.ln
 refine⟨by omega,fun v h=>h2.sub v (h1.sub v h),fun v h=>?_,fun v h=>h2.st v (h1.st v h),fun v h=>?_⟩
 . rcases h2.old v h with h | h
   . rcases h1.old v h with h | h
     . exact .inl h
     . exact .inr (h2.st v h)
   . exact .inr h
 . rcases h2.ss v h with h | h
   . rcases h1.ss v h with h | h
     . exact .inl h
     . exact .inr (h2.sub v h)
   . exact .inr h
def sY (xs:List Rt)(p:Int):Prop:=∀es,cG xs p es->es.length<=600000
theorem inner {xs:List Rt}{p:Int}(hx:∀x∈xs,bJ p x)(hl:sY xs p){g:G}{r:aC}:∀(ks:List Nat) (es:List (aC×D)) (S:List aC) (c8 c9:Option D),(∀k∈ks,k<xs.length/\dQ xs r k=true)->cG xs p es->r∈keys es->S.length<=es.length ->
  ∃es' S' c8' c9',forL (gT 2 (ax (gN 8) (ax (gN 9) aY))) oF (ks.map (gh xs r)) (cK p xs g.length (some (rD r)) c8 c9) (g ++ [dR es,S.map rD])=some (.nx,cK p xs g.length (some (rD r)) c8' c9',g ++ [dR es',S'.map rD])/\cG xs p es'/\iC es es' S S' /\ ∀k∈ks,b_ xs r k∈keys es'
 | [],es,S,c8,c9,_,C,_,_=>⟨es,S,c8,c9,rfl,C,iC.refl,by simp⟩
 | k::ks,es,S,c8,c9,h,C,hr,hS=>by
  obtain⟨hk,hc⟩:=h k (by simp)
  obtain⟨er,her,her2⟩:=List.mem_map.mp hr
  have hrm:Rm p r:=by rw [<- her2];exact C.rm er her
  have hrn:Rm p (b_ xs r k):=St.put hrm (hx _ (cF hk)).r.dd
  have kk:=g0 hrn
  have a0:(g ++ [dR es,S.map rD])[g.length]? = some (dR es):=by simp
  have a1:∀d:List D,(g ++ [d,S.map rD])[g.length+1]? = some (S.map rD):=fun _=>by simp
  have tg:gT 2 (ax (gN 8) (ax (gN 9) aY)) (gh xs r k) (cK p xs g.length (some (rD r)) c8 c9) (g ++ [dR es,S.map rD])=some (cK p xs g.length (some (rD r)) (some (.int k)) (some (rD (b_ xs r k))),g ++ [dR es,S.map rD]):=by
    simp [gh]
  by_cases hm:b_ xs r k∈keys es
  . obtain⟨e,he,he2⟩:=List.mem_map.mp hm
    have hg:bD (dR es) (rD (b_ xs r k))=some e.2:=i_ C.rm C.nd (by rw [<- he2];exact he)
    have bd:oF (cK p xs g.length (some (rD r)) (some (.int k)) (some (rD (b_ xs r k)))) (g ++ [dR es,S.map rD])=some (.nx,cK p xs g.length (some (rD r)) (some (.int k)) (some (rD (b_ xs r k))),g ++ [dR es,S.map rD]):=by
      simp [oF,kk,hg]
    obtain⟨es',S',c8',c9',e1,C',G',h'⟩:=inner hx hl (g:=g) ks es S (some (.int k)) (some (rD (b_ xs r k))) (fun j hj=>h j (by simp [hj])) C hr hS
    refine⟨es',S',c8',c9',?_,C',G',fun j hj=>?_⟩
    . rw [<- e1,List.map_cons]
      simp only [forL,tg,Option.bind_some,bd]
    . rcases List.mem_cons.mp hj with rfl | hj
      . exact G'.sub _ hm
      . exact h' j hj
  . obtain⟨hg,hp⟩:=ll (p:=p) C.rm hrn (fun e he z=>hm (List.mem_map.mpr ⟨e,he,z⟩))
    have hle:=hl es C
    have hs:nS (dR es)=true:=by unfold nS aD;exact decide_eq_true (by rw [sF];omega)
    have hz:aD (S.length+1)=true:=by unfold aD;exact decide_eq_true (by omega)
    have C2:=C.add hx hr hk hc hm
    have bd:oF (cK p xs g.length (some (rD r)) (some (.int k)) (some (rD (b_ xs r k)))) (g ++ [dR es,S.map rD])=some (.nx,cK p xs g.length (some (rD r)) (some (.int k)) (some (rD (b_ xs r k))),g ++ [dR (es ++ [(b_ xs r k,.tup [.int (k:Nat),rD r])]),(S ++ [b_ xs r k]).map rD]):=by
      have q1:=hp (.tup [.int (k:Nat),rD r])
      simp [oF,kk,hg,hs,q1,hz,List.set_append]
    have hr2:r∈keys (es ++ [(b_ xs r k,.tup [.int (k:Nat),rD r])]):=by unfold keys;rw [List.map_append];exact List.mem_append.mpr (.inl hr)
    obtain⟨es',S',c8',c9',e1,C',G',h'⟩:=inner hx hl (g:=g) ks _ (S ++ [b_ xs r k]) (some (.int k)) (some (rD (b_ xs r k))) (fun j hj=>h j (by simp [hj])) C2 hr2 (by simp;omega)
    have G1:iC es (es ++ [(b_ xs r k,.tup [.int (k:Nat),rD r])]) S (S ++ [b_ xs r k]):=by
      refine⟨by simp;omega,fun v hv=>by unfold keys at *;rw [List.map_append];exact List.mem_append.mpr (.inl hv),fun v hv=>?_,fun v hv=>List.mem_append.mpr (.inl hv),fun v hv=>?_⟩
      . unfold keys at *
        rw [List.map_append] at hv
        rcases List.mem_append.mp hv with hv | hv
        . exact .inl hv
        . exact .inr (List.mem_append.mpr (.inr (by simpa using hv)))
      . rcases List.mem_append.mp hv with hv | hv
        . exact .inl hv
        . refine .inr ?_
          unfold keys
          rw [List.map_append]
          exact List.mem_append.mpr (.inr (by simpa using hv))
    refine⟨es',S',c8',c9',?_,C',G1.trans G',fun j hj=>?_⟩
    . rw [<- e1,List.map_cons]
      simp only [forL,tg,Option.bind_some,bd]
    . rcases List.mem_cons.mp hj with rfl | hj
      . exact G'.sub _ (by unfold keys;simp)
      . exact h' j hj
def Bt:FS:=aF (dP isRef lR (af 6) aj) (gN 7)
def wU:FT:=aH (ao oEq (ao (aK aW Builtin.bitAnd) (ao aw (af 7) (fC (.int 0))) (af 3)) (af 3))
def Fz (way:Fn):FS:=aB (aN aG (aa (fC (.str "order")) (aa (aq way (aa (af 5) (aa (af 7) aj))) aj)))
def Au (leads:Fn):FS:=ed (bW (aq leads (aa (af 2) (aa (ao aw (af 7) (fC (.int 0))) (aa (ao aw (af 7) (fC (.int 1))) aj))))) (gT 2 (ax (gN 8) (ax (gN 9) aY))) oF
def jM:FT:=aH (ao qf (aq bP (aa (af 6) aj)) (fC (.int 0)))
def kh (leads way:Fn):FS:=av Bt (av (bH wU (Fz way) aL) (Au leads))
theorem kW {p:Int}{r:aC}(h:Rm p r)(n:Nat):bp n (rD r)=true:=by
 have h1:=nK h n
 simp [bp] at h1
 simp [rD,bp,aP,h1]
theorem yJ {p:Int}{S:List aC}(h:∀v∈S,Rm p v)(n:Nat):aP n (S.map rD)=true:=cM fun d hd=>by
 obtain⟨v,hv,rfl⟩:=List.mem_map.mp hd
 exact kW (h v hv) n
theorem tP {es:List (aC×D)}{d:D}(h:d∈dR es):∃e∈es,d=rD e.1\/d=e.2:=by
 induction es with
 | nil=>cases h
 | cons e es ih =>
  simp only [dR,List.mem_cons] at h
  rcases h with rfl | rfl | h
  . exact⟨e,by simp,.inl rfl⟩
  . exact⟨e,by simp,.inr rfl⟩
  . obtain⟨e',h1,h2⟩:=ih h
    exact⟨e',by simp [h1],h2⟩
theorem cG.bp {xs:List Rt}{p:Int}{es:List (aC×D)}(C:cG xs p es)(n:Nat):aP n (dR es)=true:=cM fun d hd=>by
 obtain⟨e,he,h⟩:=tP hd
 rcases h with rfl | rfl
 . exact kW (C.rm e he) n
 . obtain⟨i,hi⟩:=List.mem_iff_getElem?.mp he
   rcases C.at_ i e hi with e0 | ⟨j,r',v',k,_,hj2,_,_,e1⟩
   . rw [e0];rfl
   . have:=kW (C.rm _ (List.mem_of_getElem? hj2)) n
     rw [e1]
     simp [L3.bp,aP]
     exact this
theorem cG.oW {xs:List Rt}{p:Int}{es:List (aC×D)}(C:cG xs p es){v:aC}(h:v∈keys es):Rm p v:=by
 obtain⟨e,he,rfl⟩:=List.mem_map.mp h
 exact C.rm e he
theorem Ce {g:G}{a b:List D}(hc:Clean g)(ha:∀n,aP n a=true)(hb:∀n,aP n b=true):Clean (g ++ [a,b]):=fun xs hx n=>by
 rcases List.mem_append.mp hx with h | h
 . exact hc xs h n
 . simp at h
   rcases h with rfl | rfl
   . exact ha n
   . exact hb n
structure LI (xs:List Rt)(p:Int)(es:List (aC×D))(S:List aC)(c:Nat):Prop where
 C:cG xs p es
 fs:first p∈keys es
 sk:∀v∈S,v∈keys es
 pr:∀v∈keys es,v∈S\/(eR xs v.1=false /\ ∀k<xs.length,dQ xs v k=true->b_ xs v k∈keys es)
 ct:c+S.length=es.length
def de (xs:List Rt)(p:Int)(es:List (aC×D)):Prop:=first p∈keys es /\ ∀v∈keys es,eR xs v.1=false /\ ∀k<xs.length,dQ xs v k=true->b_ xs v k∈keys es
theorem de.no {xs p es}(h:de xs p es){ks:List Nat}{r:aC}(hp:Path xs p ks r):r∈keys es/\eR xs r.1=false:=by
 have:r∈keys es:=by
  induction hp with
  | nil=>exact h.1
  | snoc _ hk hc ih=>exact(h.2 _ ih).2 _ hk hc
 exact⟨this,(h.2 _ this).1⟩
set_option maxHeartbeats 4000000 in
theorem loop {le wa:Fn}{xs:List Rt}{p:Int}(hx:∀x∈xs,bJ p x)(hn:xs.length<=100)(hl:sY xs p)(hle:fX p le)(hwa:mX xs p wa){g:G}(hc:Clean g):∀(f c:Nat) (es:List (aC×D)) (S:List aC) (c7 c8 c9:Option D),LI xs p es S c->600001<=f+c ->
  (∃σ' a b ks r,gA jM (kh le wa) f (cK p xs g.length c7 c8 c9) (g ++ [dR es,S.map rD])=some (.rt (.tup [.str "order",.tup (kD ks)]),σ',g ++ [a,b])/\Path xs p ks r/\eR xs r.1=true) \/
  (∃es' d7 d8 d9,gA jM (kh le wa) f (cK p xs g.length c7 c8 c9) (g ++ [dR es,S.map rD])=some (.nx,cK p xs g.length d7 d8 d9,g ++ [dR es',[]])/\cG xs p es'/\de xs p es')
 | 0,c,es,S,c7,c8,c9,I,hf=>by
  have:=hl es I.C
  have:=I.ct
  omega
 | f+1,c,es,S,c7,c8,c9,I,hf=>by
  have a1:(g ++ [dR es,S.map rD])[g.length+1]? = some (S.map rD):=by simp
  have ec:jM (cK p xs g.length c7 c8 c9) (g ++ [dR es,S.map rD])=some (decide (0<S.length),g ++ [dR es,S.map rD]):=by
    simp [jM,cf]
  rcases List.eq_nil_or_concat S with rfl | ⟨T,r,rfl⟩
  . refine .inr ⟨es,c7,c8,c9,?_,I.C,I.fs,fun v hv=>?_⟩
    . simp only [gA,ec]
      simp
    . rcases I.pr v hv with h | h
      . cases h
      . exact h
  . rw [List.concat_eq_append] at I ec a1 ⊢
    have hrk:r∈keys es:=I.sk r (by simp)
    have hrm:=I.C.oW hrk
    have ct:=I.ct
    have po:Bt (cK p xs g.length c7 c8 c9) (g ++ [dR es,(T ++ [r]).map rD])=some (.nx,cK p xs g.length (some (rD r)) c8 c9,g ++ [dR es,T.map rD]):=by
      simp [Bt,lR,List.set_append]
    have ec':jM (cK p xs g.length c7 c8 c9) (g ++ [dR es,(T ++ [r]).map rD])=some (true,g ++ [dR es,(T ++ [r]).map rD]):=by
      rw [ec];simp
    have cl:Clean (g ++ [dR es,T.map rD]):=Ce hc (fun n=>I.C.bp n) (fun n=>yJ (fun v hv=>I.C.oW (I.sk v (by simp [hv]))) n)
    have ba:=gw r.1 (fH xs)
    have ev:wU (cK p xs g.length (some (rD r)) c8 c9) (g ++ [dR es,T.map rD])=some (eR xs r.1,g ++ [dR es,T.map rD]):=by
      have e1:=p6 xs r.1
      generalize hen:fH xs=en at *
      cases h:eR xs r.1 with
      | true =>
        have e2:=e1.mpr h
        rw [e2] at ba
        simp [wU,rD,el,aK,aW,ba,hen]
      | false =>
        have e2:¬(r.1 &&& en)=en:=fun z=>by rw [e1.mp z] at h;cases h
        have e3:¬(((r.1 &&& en:Nat):Int)=(en:Int)):=by omega
        generalize (r.1 &&& en)=ae at *
        simp [wU,rD,el,aK,aW,ba,hen,e3]
    cases hE:eR xs r.1 with
    | true =>
      rw [hE] at ev
      obtain⟨e,he,he2⟩:=List.mem_map.mp hrk
      have h3:=hl es I.C
      obtain⟨ks,p1,p2⟩:=hwa es (g ++ [dR es,T.map rD]) g.length e I.C (by omega) (by simp) he (cl.all _)
      rw [he2] at p1 p2
      refine .inl ⟨cK p xs g.length (some (rD r)) c8 c9,dR es,T.map rD,ks,r,?_,p1,hE⟩
      simp only [gA,ec',Option.bind_some,if_true,kh,dh,po,fw,ev]
      simp [Fz,p2]
    | false =>
      rw [hE] at ev
      have ld:=hle xs r (g ++ [dR es,T.map rD]) hx (by omega) hrm cl
      obtain⟨es',S',d8,d9,e1,C',G',h'⟩:=inner hx hl (g:=g) (r:=r) ((List.range xs.length).filter (dQ xs r)) es T c8 c9 (fun k hk=>⟨List.mem_range.mp (List.mem_filter.mp hk).1,(List.mem_filter.mp hk).2⟩) I.C hrk (by simp at ct;omega)
      have e1':Au le (cK p xs g.length (some (rD r)) c8 c9) (g ++ [dR es,T.map rD])=some (.nx,cK p xs g.length (some (rD r)) d8 d9,g ++ [dR es',S'.map rD]):=by
        have e2:forL (gT 2 (ax (gN 8) (ax (gN 9) aY))) oF (ji xs r) (cK p xs g.length (some (rD r)) c8 c9) (g ++ [dR es,T.map rD])=_:=e1
        have i1:bW (aq le (aa (af 2) (aa (ao aw (af 7) (fC (.int 0))) (aa (ao aw (af 7) (fC (.int 1))) aj)))) (cK p xs g.length (some (rD r)) c8 c9) (g ++ [dR es,T.map rD])=some (ji xs r,g ++ [dR es,T.map rD]):=by
          simp [rD,el,eV,ld]
        simp only [Au,pT,i1,Option.bind_some,e2]
      have I':LI xs p es' S' (c+1):=by
        have gl:=G'.ln
        refine⟨C',G'.sub _ I.fs,fun v hv=>?_,fun v hv=>?_,by simp at ct;omega⟩
        . rcases G'.ss v hv with h | h
          . exact G'.sub v (I.sk v (by simp [h]))
          . exact h
        . rcases G'.old v hv with h | h
          . rcases I.pr v h with h2 | ⟨h2,h3⟩
            . rcases List.mem_append.mp h2 with h2 | h2
              . exact .inl (G'.st v h2)
              . simp at h2
                subst h2
                exact .inr ⟨hE,fun k hk hk2=>h' k (List.mem_filter.mpr ⟨List.mem_range.mpr hk,hk2⟩)⟩
            . exact .inr ⟨h2,fun k hk hk2=>G'.sub _ (h3 k hk hk2)⟩
          . exact .inl h
      have step:gA jM (kh le wa) (f+1) (cK p xs g.length c7 c8 c9) (g ++ [dR es,(T ++ [r]).map rD])=gA jM (kh le wa) f (cK p xs g.length (some (rD r)) d8 d9) (g ++ [dR es',S'.map rD]):=by
        simp only [gA,ec',Option.bind_some,if_true,kh,dh,po,fw,ev]
        simp [e1']
      rw [step]
      exact loop hx hn hl hle hwa hc f (c+1) es' S' (some (rD r)) d8 d9 I' (by omega)
theorem jL {α:Type}{f h:α->D}{t:FG}{e:FE}{nn:Nat}{g:G}{ys:List D}{xs:List α}(hg:g[nn]? = some ys)(hk:aO ys=xs.map f)(I:Sg->Prop)(hh:∀x∈xs,∀σ,I σ->∃σ1,t (f x) σ g=some (σ1,g)/\e σ1 g=some (h x,g)/\I σ1) :
  ∀(k:Nat) (σ:Sg),k<=xs.length->I σ->cu nn xs.length t bq e k σ g=some ((xs.drop (xs.length-k)).map h,g)
 | 0,σ,_,_=>by simp [cu,hg,hk]
 | k+1,σ,hkl,hi=>by
  have hlt:xs.length-(k+1)<xs.length:=by omega
  obtain⟨σ1,h1,h2,h4⟩:=hh (xs[xs.length-(k+1)]) (List.getElem_mem hlt) σ hi
  have ih:=jL hg hk I hh k σ1 (by omega) h4
  rw [List.drop_eq_getElem_cons hlt,show xs.length-(k+1)+1=xs.length-k by omega]
  have hget:(xs.map f)[xs.length-(k+1)]? = some (f xs[xs.length-(k+1)]):=by simp [hlt]
  simp only [cu,hg,hk,Option.map_some,Option.bind_some,List.length_map,if_true,hget,h1]
  simp [h2,ih]
def vR:FS:=aB (aq eH (aa (bA bB (iM (aa (af 1) aj)) [none,none,some 0] (gN 1) (aH (ao cX (ao (aK aW Builtin.bitAnd) (af 2) (ao (aK bY (fun i j=>i*2 ^ j.toNat)) (fC (.int 1)) (af 1))) (fC (.int 0)))) (af 1)) aj))
def dD (n b:Nat):List Nat:=(List.range n).filter fun i=>b.testBit i
def fS (f:Fn):Prop:=∀(b n:Nat) g,n<=100->f [.int (b:Nat),.int (n:Nat)] g=some (.tup (kD (dD n b)),g)
theorem Dv:fS (az false 2 2 vR):=fun b n g hn=>by
 refine bL (σ':=[some (.int (b:Nat)),some (.int (n:Nat))]) rfl ?_ rfl
 have hr:dj 0 n=(List.range n).map fun(i:Nat)=>D.int (i:Nat):=by
  unfold dj
  exact List.map_congr_left fun i _=>by simp
 have ir:iM (aa (af 1) aj) [some (.int (b:Nat)),some (.int (n:Nat))] g=some (dj 0 n,g):=by
  obtain⟨q,e,h⟩:wp (iM (aa (af 1) aj) [some (.int (b:Nat)),some (.int (n:Nat))] g) fun q=>q=(dj 0 n,g):=by
   refine qV ?_
   simp
   omega
  rw [e,h]
 have hz:aD (dj 0 n).length=true:=a_ (by rw [lS];omega)
 have c1:=eB (f:=fun(i:Nat)=>D.int (i:Nat)) (t:=gN 1) (c:=aH (ao cX (ao (aK aW Builtin.bitAnd) (af 2) (ao (aK bY (fun i j=>i*2 ^ j.toNat)) (fC (.int 1)) (af 1))) (fC (.int 0)))) (e:=af 1) (cB:=fun i=>b.testBit i) (h:=fun(i:Nat)=>D.int (i:Nat)) (fun σ=>∃a,σ = [none,a,some (.int (b:Nat))]) (List.range n) [none,none,some (.int (b:Nat))] g ⟨_,rfl⟩ (by
  rintro i hm σ ⟨a,rfl⟩
  have hi:=List.mem_range.mp hm
  refine⟨[none,some (.int i),some (.int (b:Nat))],by simp,?_,fun _=>by simp,⟨_,rfl⟩⟩
  have o1:=j_ (show i<=1000 by omega)
  have hc:((2:Int) ^ i)=((2 ^ i:Nat):Int):=by simp
  have ba:Builtin.bitAnd (b:Int) ((2:Int) ^ i)=((b &&& 2 ^ i:Nat):Int):=by rw [hc];exact gw b (2 ^ i)
  have e1:=ly b i
  cases ht:b.testBit i with
  | false =>
   have e2:=e1.mpr ht
   rw [e2] at ba
   simp [aK,aW,o1,ba,flat,dep,fP]
  | true =>
   have e2:¬(b &&& 2 ^ i)=0:=fun z=>by rw [e1.mp z] at ht;cases ht
   have e3:¬(((b &&& 2 ^ i:Nat):Int)=0):=by omega
   generalize (b &&& 2 ^ i)=ae at *
   simp [aK,aW,o1,ba,flat,dep,fP]
   omega)
 rw [<- hr] at c1
 have c2:bZ (gN 1) (aH (ao cX (ao (aK aW Builtin.bitAnd) (af 2) (ao (aK bY (fun i j=>i*2 ^ j.toNat)) (fC (.int 1)) (af 1))) (fC (.int 0)))) (af 1) (dj 0 n) [none,none,some (.int (b:Nat))] g=some (kD (dD n b),g):=c1
 have sb:bu [none,none,some 0] [some (D.int (b:Nat)),some (D.int (n:Nat))] = [none,none,some (.int (b:Nat))]:=rfl
 have hz2:aD (kD (dD n b)).length=true:=a_ (by
  have:=List.length_filter_le (fun i=>b.testBit i) (List.range n)
  simp at this
  simp [kD,dD]
  omega)
 show vR [some (.int (b:Nat)),some (.int (n:Nat))] g=_
 unfold vR
 simp only [lz,j0,j6,lV,vn,ir,Option.bind_some,hz,if_true,sb,c2]
 simp [bB,eH,cf,hz2]
def tW (rd:Fn):FS:=aB (aN aG (aa (fC (.str "none")) (aa (aq eH (aa (gS bB (fG (af 5)) [none,none,none,some 1] (gT 2 (ax (gN 1) (ax (gN 2) aY))) bq (aN aG (aa (aq rd (aa (af 1) (aa (aq bP (aa (af 3) aj)) aj))) (aa (af 2) aj)))) aj)) aj)))
def kY (zeros plan ended leads way rd:Fn):FS:=av (aF (aq plan (aa (af 1) aj)) (gN 2)) (av (aF (aq ended (aa (af 1) aj)) (gN 3)) (av (aF (aN aG (aa (fC (.int 0)) (aa (aq zeros (aa (af 0) aj)) aj))) (gN 4)) (av (aF (gY [(af 4,fC .non)]) (gN 5)) (av (aF (aN mkRef (aa (af 4) aj)) (gN 6)) (av (i5 1000000 jM (kh leads way)) (tW rd))))))
def bx (xs:List Rt)(r:aC):D:=.tup [.tup (kD (dD xs.length r.1)),.tup r.2]
theorem z0 {rd:Fn}{xs:List Rt}{p:Int}{es:List (aC×D)}{g:G}{d7 d8 d9:Option D}(hr:fS rd)(hl:xs.length<=100)(C:cG xs p es)(hle:es.length<=1000000) :
  tW rd (cK p xs g.length d7 d8 d9) (g ++ [dR es,[]])=some (.rt (.tup [.str "none",.tup ((keys es).map (bx xs))]),cK p xs g.length d7 d8 d9,g ++ [dR es,[]]):=by
 have hg:(g ++ [dR es,[]])[g.length]? = some (dR es):=by simp
 have hz:aD (keys es).length=true:=by unfold aD;exact decide_eq_true (by simp [keys];omega)
 have hk:aO (dR es)=(keys es).map rD:=by rw [qo];simp [keys]
 have c1:=jL (f:=rD) (t:=gT 2 (ax (gN 1) (ax (gN 2) aY))) (e:=aN aG (aa (aq rd (aa (af 1) (aa (aq bP (aa (af 3) aj)) aj))) (aa (af 2) aj))) (h:=bx xs) hg hk (fun σ=>∃a b,σ = [none,a,b,some (.tup (xs.map rt))]) (by
  rintro r hm σ ⟨a,b,rfl⟩
  refine⟨[none,some (.int (r.1:Nat)),some (.tup r.2),some (.tup (xs.map rt))],by simp [rD],?_,⟨_,_,rfl⟩⟩
  have:=hr r.1 xs.length (g ++ [dR es,[]]) hl
  simp [cf,this,bx]) (keys es).length [none,none,none,some (.tup (xs.map rt))] (Nat.le_refl _) ⟨_,_,rfl⟩
 rw [Nat.sub_self,List.drop_zero] at c1
 have kl:(aO (dR es)).length=(keys es).length:=by rw [hk];simp
 have sb:bu [none,none,none,some 1] (cK p xs g.length d7 d8 d9) = [none,none,none,some (.tup (xs.map rt))]:=rfl
 have i1:fG (af 5) (cK p xs g.length d7 d8 d9) (g ++ [dR es,[]])=some (g.length,(keys es).length,g ++ [dR es,[]]):=by
  simp [kl]
 have cd:gS bB (fG (af 5)) [none,none,none,some 1] (gT 2 (ax (gN 1) (ax (gN 2) aY))) bq (aN aG (aa (aq rd (aa (af 1) (aa (aq bP (aa (af 3) aj)) aj))) (aa (af 2) aj))) (cK p xs g.length d7 d8 d9) (g ++ [dR es,[]])=some (.lst ((keys es).map (bx xs)),g ++ [dR es,[]]):=by
  simp only [t_,i1,Option.bind_some,hz,if_true,sb,c1]
  rfl
 have hz2:aD ((keys es).map (bx xs)).length=true:=by rw [List.length_map];exact hz
 unfold tW
 simp only [lz,Dh,j0,j6,lV,xp,Option.bind_some,cd]
 simp [eH,cf]
 simp at hz2
 simp [hz2]
def oD (xs:List Rt)(p:Int)(d:D):Prop:=(flat d=true/\dep d<=60 /\ ∀n,bp n d=true)/\((∃ks r,d = .tup [.str "order",.tup (kD ks)]/\Path xs p ks r/\eR xs r.1=true)\/(∃es,d = .tup [.str "none",.tup ((keys es).map (bx xs))]/\cG xs p es/\de xs p es))
theorem yT {xs:List Rt}{p:Int}{r:aC}(h:Rm p r):flat (bx xs r)=true/\dep (bx xs r)<=6 /\ ∀n,bp n (bx xs r)=true:=by
 obtain⟨h1,h2⟩:=lB (dD xs.length r.1)
 obtain⟨h3,h4⟩:=St.flat h
 have h3':aX r.2=true:=by simpa [flat] using h3
 have h4':bM r.2<=3:=by simp [dep] at h4;omega
 refine⟨by simp [bx,flat,aX,h1,h3'],by simp [bx,dep,bM,h2];omega,fun n=>?_⟩
 have h5:=nK h n
 simp [bp] at h5
 have h6:aP n (kD (dD xs.length r.1))=true:=cM fun x hx=>by
  obtain⟨k,_,rfl⟩:=List.mem_map.mp hx
  rfl
 simp [bx,bp,aP,h5,h6]
def wN (p:Int)(f:Fn):Prop:=∀xs g,(∀x∈xs,bJ p x)->xs.length<=100->sY xs p->Clean g->∃d,f [.int p,.tup (xs.map rt)] g=some (d,g)/\oD xs p d
set_option maxHeartbeats 4000000 in
theorem Dj {z pl en le wa rd:Fn}{p:Int}(p0:0<=p)(hz:jG p z)(hp:j9 p pl)(he:mY en)(hle:fX p le)(hwa:∀xs,mX xs p wa)(hr:fS rd):wN p (az false 10 2 (kY z pl en le wa rd)):=fun xs g hx hn hl hc=>by
 have key:wp (az false 10 2 (kY z pl en le wa rd) [.int p,.tup (xs.map rt)] g) fun q=>q.2=g/\oD xs p q.1:=by
  refine fW rfl ?_
  have e1:=hp xs g hx (by omega) hc
  have e2:=he xs g (by omega)
  have e3:=hz g
  have fr:Rm p (first p):=St.zs p0
  have kk:=g0 fr
  have C0:cG xs p [(first p,.non)]:=⟨fun e h=>by simp at h;subst h;exact fr,by simp,fun i e h=>by
    have:=(List.getElem?_eq_some_iff.mp h).1
    have hi:i=0:=by simpa using this
    subst hi
    simp at h
    exact .inl h.symm⟩
  have I0:LI xs p [(first p,.non)] [first p] 0:=⟨C0,by simp [keys],fun v hv=>by simpa [keys] using hv,fun v hv=>.inl (by simpa [keys] using hv),by simp⟩
  have lp:=loop hx hn hl hle (hwa xs) hc 1000000 0 [(first p,.non)] [first p] none none none I0 (by omega)
  have pre:∀R,av (i5 1000000 jM (kh le wa)) (tW rd) (cK p xs g.length none none none) (g ++ [dR [(first p,.non)],[first p].map rD])=R->kY z pl en le wa rd [some (.int p),some (.tup (xs.map rt)),none,none,none,none,none,none,none,none] g=R:=fun R hR=>by
    have dn:gY [(af 4,fC .non)] [some (.int p),some (.tup (xs.map rt)),some (.lst (dk xs)),some (.int (fH xs:Nat)),some (rD (first p)),none,none,none,none,none] g=some (.aQ g.length,g ++ [dR [(first p,.non)]]):=by
     have sz:nS []=true:=by decide
     simp [gY,oz,L3.putAll,gP,kk,sz,bR,dR]
    have fd:rD (first p) = .tup [.int 0,.tup (zs p)]:=rfl
    rw [<- hR]
    unfold kY
    generalize av (i5 1000000 jM (kh le wa)) (tW rd)=rest
    rw [fd] at dn
    simp [e1,e2,e3,dn,fd]
    rfl
  show wp (kY z pl en le wa rd [some (.int p),some (.tup (xs.map rt)),none,none,none,none,none,none,none,none] g) _
  rcases lp with⟨σ',a,b,ks,r,e,h1,h2⟩ | ⟨es',d7,d8,d9,e,C',h1⟩
  . have:=pre (some (.rt (.tup [.str "order",.tup (kD ks)]),σ',g ++ [a,b])) (by simp only [dh,i5,e,Option.bind_some])
    rw [this]
    have kn:∀n,aP n (kD ks)=true:=fun n=>cM fun x hx=>by
     obtain⟨k,_,rfl⟩:=List.mem_map.mp hx
     rfl
    obtain⟨f1,f2⟩:=lB ks
    simp only [eX]
    refine⟨by simp [bp,aP,kn],by simpa using hc.all _,by simp,by simp,⟨by simp [flat,aX,f1],by simp [dep,bM,f2],fun n=>by simp [bp,aP,kn]⟩,.inl ⟨ks,r,rfl,h1,h2⟩⟩
  . have hle2:=hl es' C'
    have e5:=z0 (g:=g) (d7:=d7) (d8:=d8) (d9:=d9) hr (by omega) C' (by omega)
    have:=pre (some (.rt (.tup [.str "none",.tup ((keys es').map (bx xs))]),cK p xs g.length d7 d8 d9,g ++ [dR es',[]])) (by simp only [dh,i5,e,Option.bind_some,e5])
    rw [this]
    have yy:∀x∈(keys es').map (bx xs),flat x=true/\dep x<=6 /\ ∀n,bp n x=true:=fun x hx=>by
     obtain⟨r,hr,rfl⟩:=List.mem_map.mp hx
     exact yT (C'.oW hr)
    obtain⟨f1,f2⟩:=j7 fun x hx=>⟨(yy x hx).1,(yy x hx).2.1⟩
    have kn:∀n,aP n ((keys es').map (bx xs))=true:=fun n=>cM fun x hx=>(yy x hx).2.2 n
    have done_:=And.intro C' h1
    generalize hls:(keys es').map (bx xs)=ls at *
    simp only [eX]
    refine⟨by simp [bp,aP,kn],by simpa using hc.all _,by simp,by simp,⟨by simp [flat,aX,f1],by simp [dep,bM];omega,fun n=>by simp [bp,aP,kn]⟩,.inr ⟨es',by rw [hls],done_⟩⟩
 obtain⟨⟨d,g'⟩,e,h1,h2⟩:=key
 dsimp only at h1 h2
 subst h1
 exact⟨d,e,h2⟩
def rB (t a:Fn):FS:=av (bH (gZ (cy (bO (aq t (aa (af 1) (aa (fC (.int 0)) (aa (aq bP (aa (af 0) aj)) aj)))))) (cy (bO (aq a (aa (af 0) (aa (af 1) aj)))))) (aB (fC (.bl false))) aL) (aB (aq dw (aa (bA bB (mC (aa (fC (.int 1)) (aa (aq bP (aa (af 1) aj)) aj))) [none,none,some 1] (gN 1) bq (ao oLt (ao aw (af 2) (ao (aK aW (· - ·)) (af 1) (fC (.int 1)))) (ao aw (af 2) (af 1)))) aj)))
def rZ (f:Fn):Prop:=∀(ss:List D) (ks:List Nat) g,ks.Pairwise (· < ·)->(∀k∈ks,k<ss.length)->ss.length<=100->f [.tup ss,.tup (kD ks)] g=some (.bl true,g)
theorem zR {ks:List Nat}{n:Nat}(hp:ks.Pairwise (· < ·))(hk:∀k∈ks,k<n):ks.length<=n:=by
 have:=jZ (V:=ks) (W:=List.range n) (hp.imp fun h=>Nat.ne_of_lt h) (fun k h=>List.mem_range.mpr (hk k h))
 simpa using this
theorem Am {t a:Fn}(ht:dq t)(ha:qH a):rZ (az false 2 2 (rB t a)):=fun ss ks g hp hk hl=>by
 have hkl:=zR hp hk
 have kl:(kD ks).length=ks.length:=by simp [kD]
 refine bL (σ':=[some (.tup ss),some (.tup (kD ks))]) rfl ?_ rfl
 have e1:=ht (.tup (kD ks)) 0 (ss.length:Int) g rfl
 have t1:dm (.tup (kD ks)) 0 (ss.length:Int)=true:=by
  simp [dm,kl];omega
 rw [t1] at e1
 have e2:=ha ss (kD ks) g (fun x hx=>by obtain⟨k,_,rfl⟩:=List.mem_map.mp hx;rfl) (by rw [kl];omega)
 have t2:(kD ks).all (uL ss.length)=true:=by
  rw [List.all_eq_true]
  intro d hd
  obtain⟨k,h,rfl⟩:=List.mem_map.mp hd
  have:=hk k h
  simp only [uL,within,Bool.and_eq_true,decide_eq_true_eq]
  omega
 rw [t2] at e2
 have ir:mC (aa (fC (.int 1)) (aa (aq bP (aa (af 1) aj)) aj)) [some (.tup ss),some (.tup (kD ks))] g=some (dj 1 (ks.length-1),g):=by
  obtain⟨q,e,h⟩:wp (mC (aa (fC (.int 1)) (aa (aq bP (aa (af 1) aj)) aj)) [some (.tup ss),some (.tup (kD ks))] g) fun q=>q=(dj 1 (ks.length-1),g):=by
   refine Ds ?_
   have en:((ks.length:Int)-1).toNat=ks.length-1:=by omega
   simp only [j6,xp,j0,qi,lV,Option.bind_some]
   simp [cf,kl]
   exact⟨1,ks.length,⟨rfl,rfl⟩,⟨by omega,by omega⟩,⟨by omega,by omega⟩,by rw [en]⟩
  rw [e,h]
 have hz:aD (dj 1 (ks.length-1)).length=true:=a_ (by rw [lS];omega)
 have c1:=dH (f:=fun(i:Nat)=>D.int (1+(i:Int))) (t:=gN 1) (c:=bq) (e:=ao oLt (ao aw (af 2) (ao (aK aW (· - ·)) (af 1) (fC (.int 1)))) (ao aw (af 2) (af 1))) (h:=fun _=>D.bl true) (fun σ=>∃o,σ = [none,o,some (.tup (kD ks))]) (List.range (ks.length-1)) [none,none,some (.tup (kD ks))] g ⟨_,rfl⟩ (by
  rintro i hm σ ⟨o,rfl⟩
  have hi:=List.mem_range.mp hm
  refine⟨[none,some (.int (1+(i:Int))),some (.tup (kD ks))],by simp,by simp,?_,⟨_,rfl⟩⟩
  have h0:i<ks.length:=by omega
  have h1:i+1<ks.length:=by omega
  have lt:=List.pairwise_iff_getElem.mp hp i (i+1) h0 h1 (by omega)
  have a1:cH (kD ks) ((1:Int)+(i:Int)-1)=some (.int (ks[i]:Nat)):=by
   rw [show(1:Int)+(i:Int)-1=((i:Nat):Int) by omega]
   exact eC (by simp [kD,h0])
  have a2:cH (kD ks) ((1:Int)+(i:Int))=some (.int (ks[i+1]:Nat)):=by
   rw [show(1:Int)+(i:Int)=((i+1:Nat):Int) by omega]
   exact eC (by simp [kD,h1])
  simp [aK,aW,a1,a2,lt])
 have c2:bZ (gN 1) bq (ao oLt (ao aw (af 2) (ao (aK aW (· - ·)) (af 1) (fC (.int 1)))) (ao aw (af 2) (af 1))) (dj 1 (ks.length-1)) [none,none,some (.tup (kD ks))] g=some ((List.range (ks.length-1)).map fun _=>D.bl true,g):=c1
 have sb:bu [none,none,some 1] [some (D.tup ss),some (D.tup (kD ks))] = [none,none,some (.tup (kD ks))]:=rfl
 have bm:=dy (fun _:Nat=>true) (List.range (ks.length-1))
 show rB t a [some (.tup ss),some (.tup (kD ks))] g=_
 unfold rB
 generalize kD ks=kk at *
 simp [e1,e2,ir,hz,sb,c2,bm]
def so (t v s:Fn):FS:=av (bH (cy (bO (aq t (aa (af 2) (aa (af 0) (aa (af 0) aj)))))) (aB (fC (.bl false))) aL) (aB (aq dw (aa (bA bB (bW (af 2)) [none,none,some 1] (gN 1) bq (i6 (aq v (aa (af 1) aj)) (aq jt (aa (bA bB (bW (af 2)) [none,none,some 1] (gN 1) bq (aq s (aa (af 2) (aa (af 1) aj)))) aj)))) aj)))
def rO (p:Int)(f:Fn):Prop:=∀(vs:D) st g,St p st->f [.int p,vs,.tup st] g=some (.bl true,g)
theorem A3 {t v s:Fn}{p:Int}(hp:p<=100)(ht:dq t)(hv:qT v):rO p (az false 3 3 (so t v s)):=fun vs st g hs=>by
 refine bL (σ':=[some (.int p),some vs,some (.tup st)]) rfl ?_ rfl
 have e1:=ht (.tup st) p p g rfl
 have t1:dm (.tup st) p p=true:=by
  have:=hs.1
  simp [dm,this]
 rw [t1] at e1
 have hz:aD st.length=true:=a_ (by have:=hs.1;omega)
 have c1:=fT (t:=gN 1) (c:=bq) (e:=i6 (aq v (aa (af 1) aj)) (aq jt (aa (bA bB (bW (af 2)) [none,none,some 1] (gN 1) bq (aq s (aa (af 2) (aa (af 1) aj)))) aj))) (h:=fun _=>D.bl true) (fun σ=>∃o,σ = [none,o,some vs]) st [none,none,some vs] g ⟨_,rfl⟩ (by
  rintro d hm σ ⟨o,rfl⟩
  refine⟨[none,some d,some vs],by simp,by simp,?_,⟨_,rfl⟩⟩
  have e2:=hv d g (iG 3 d (hs.2 d hm)).1
  rw [hs.2 d hm] at e2
  simp [e2])
 have sb:bu [none,none,some 1] [some (D.int p),some vs,some (.tup st)] = [none,none,some vs]:=rfl
 have bm:=dy (fun _:D=>true) st
 show so t v s [some (.int p),some vs,some (.tup st)] g=_
 unfold so
 simp [e1,hz,sb,c1,bm]
def oE (t r s:Fn):FS:=av (bH (cy (bO (aq t (aa (af 3) (aa (fC (.int 2)) (aa (fC (.int 2)) aj)))))) (aB (fC (.bl false))) aL) (aB (cT (aq r (aa (af 1) (aa (ao aw (af 3) (fC (.int 0))) aj))) (aq s (aa (af 0) (aa (af 2) (aa (ao aw (af 3) (fC (.int 1))) aj))))))
def lb (p:Int)(f:Fn):Prop:=∀(ss:List D) (vs:D) (ks:List Nat) st g,ks.Pairwise (· < ·)->(∀k∈ks,k<ss.length)->ss.length<=100->St p st->f [.int p,.tup ss,vs,.tup [.tup (kD ks),.tup st]] g=some (.bl true,g)
theorem yC {t r s:Fn}{p:Int}(ht:dq t)(hr:rZ r)(hs:rO p s):lb p (az false 4 4 (oE t r s)):=fun ss vs ks st g h1 h2 h3 h4=>by
 refine bL (σ':=[some (.int p),some (.tup ss),some vs,some (.tup [.tup (kD ks),.tup st])]) rfl ?_ rfl
 have e1:=ht (.tup [.tup (kD ks),.tup st]) 2 2 g rfl
 have t1:dm (.tup [.tup (kD ks),.tup st]) 2 2=true:=by simp [dm]
 rw [t1] at e1
 have e2:=hr ss ks g h1 h2 h3
 have e3:=hs vs st g h4
 show oE t r s [some (.int p),some (.tup ss),some vs,some (.tup [.tup (kD ks),.tup st])] g=_
 unfold oE
 generalize kD ks=kk at *
 simp [e1,e2,e3,el,eV]
def jJ (f:Fn):Prop:=∀ks g,(∀k∈ks,k<=1000)->ks.length<=1000->f [.tup (kD ks)] g=some (.int (((ks.map fun k=>2 ^ k).sum:Nat):Int),g)
theorem uY:jJ (az false 1 1 kq):=fun ks g hk hl=>by
 refine bL (σ':=[some (.tup (kD ks))]) rfl ?_ rfl
 have hz:aD ks.length=true:=a_ (by omega)
 have kl:(kD ks).length=ks.length:=by simp [kD]
 have c1:=dH (f:=fun(i:Nat)=>D.int i) (t:=gN 1) (c:=bq) (e:=ao (aK bY (fun i j=>i*2 ^ j.toNat)) (fC (.int 1)) (af 1)) (h:=fun(i:Nat)=>D.int ((2 ^ i:Nat):Int)) (fun σ=>∃a,σ = [none,a]) ks [none,none] g ⟨_,rfl⟩ (by
  rintro i hm σ ⟨a,rfl⟩
  refine⟨[none,some (.int i)],by simp,by simp,?_,⟨_,rfl⟩⟩
  have:=j_ (hk i hm)
  simp [aK,this])
 have c2:bZ (gN 1) bq (ao (aK bY (fun i j=>i*2 ^ j.toNat)) (fC (.int 1)) (af 1)) (kD ks) [none,none] g=some ((ks.map fun k=>((2 ^ k:Nat):Int)).map D.int,g):=by rw [List.map_map];exact c1
 have sb:∀σ:Sg,bu [none,none] σ = [none,none]:=fun _=>rfl
 have i1:=mD (ks.map fun k=>((2 ^ k:Nat):Int))
 rw [<- nF]
 generalize (ks.map fun k=>((2 ^ k:Nat):Int))=ns at *
 simp [kq,sb,c2,kl,hz,i1]
theorem v7 {n b:Nat}(h:b<2 ^ n):((dD n b).map fun k=>(2:Nat) ^ k).sum=b:=by
 unfold dD
 rw [iu]
 refine Nat.eq_of_testBit_eq fun i=>?_
 rw [i0]
 by_cases hi:i<n
 . simp [hi]
 . have:b.testBit i=false:=Nat.testBit_lt_two_pow (Nat.lt_of_lt_of_le h (Nat.pow_le_pow_right (by omega) (by omega)))
   simp [hi,this]
theorem sI (n b:Nat):(dD n b).Pairwise (· < ·):=(List.pairwise_lt_range).filter _
def AB:FT:=aH (ao oEq (ao (aK aW Builtin.bitAnd) (af 4) (af 3)) (af 3))
def Cp (leads:Fn):FE:=aq dw (aa (bA bB (bW (aq leads (aa (af 2) (aa (af 4) (aa (af 5) aj))))) [none,none,none,some 1] (gT 2 (ax (gN 1) (ax (gN 2) aY))) bq (ao ik (af 2) (af 3))) aj)
def uo (leads:Fn):FS:=av (bH AB (aB (fC (.bl false))) aL) (bH (cy (bO (Cp leads))) (aB (fC (.bl false))) aL)
def rq (plan ended leads:Fn):FS:=av (aF (aq plan (aa (af 0) aj)) (gN 2)) (av (aF (aq ended (aa (af 0) aj)) (gN 3)) (av (jH (fG (af 1)) (gT 2 (ax (gN 4) (ax (gN 5) aY))) (uo leads)) (aB (fC (.bl true)))))
def rS (xs:List Rt)(p:Int)(f:Fn):Prop:=∀es g m,(∀e∈es,Rm p e.1)->(es.map (·.1)).Nodup->de xs p es->g[m]? = some (dR es)->Clean g->f [.tup (xs.map rt),.aQ m] g=some (.bl true,g)
abbrev S6 (xs:List Rt)(m:Nat)(c4 c5:Option D):Sg:=[some (.tup (xs.map rt)),some (.aQ m),some (.lst (dk xs)),some (.int (fH xs:Nat)),c4,c5]
theorem Bq {le:Fn}{xs:List Rt}{p:Int}(hx:∀x∈xs,bJ p x)(hn:xs.length<=100)(hle:fX p le){es:List (aC×D)}{g:G}{m:Nat}(hrm:∀e∈es,Rm p e.1)(hnd:(es.map (·.1)).Nodup)(hC:de xs p es)(hm:g[m]? = some (dR es))(hc:Clean g){r:aC}(hr:r∈keys es) :
  uo le (S6 xs m (some (.int (r.1:Nat))) (some (.tup r.2))) g=some (.nx,S6 xs m (some (.int (r.1:Nat))) (some (.tup r.2)),g):=by
 obtain⟨er,her,her2⟩:=List.mem_map.mp hr
 have hrr:Rm p r:=by rw [<- her2];exact hrm er her
 obtain⟨hE,hN⟩:=hC.2 r hr
 have ba:=gw r.1 (fH xs)
 have ev:AB (S6 xs m (some (.int (r.1:Nat))) (some (.tup r.2))) g=some (false,g):=by
  have e1:=p6 xs r.1
  generalize hen:fH xs=en at *
  have e2:¬(r.1 &&& en)=en:=fun z=>by rw [e1.mp z] at hE;cases hE
  have e3:¬(((r.1 &&& en:Nat):Int)=(en:Int)):=by omega
  generalize (r.1 &&& en)=ae at *
  simp [AB,aK,aW,ba,hen,e3]
 have ld:=hle xs r g hx hn hrr hc
 have hl:((List.range xs.length).filter (dQ xs r)).length<=xs.length:=by
  have:=List.length_filter_le (dQ xs r) (List.range xs.length)
  simpa using this
 have hz:aD (ji xs r).length=true:=a_ (by simp [ji];omega)
 have c1:=dH (f:=gh xs r) (t:=gT 2 (ax (gN 1) (ax (gN 2) aY))) (c:=bq) (e:=ao ik (af 2) (af 3)) (h:=fun _=>D.bl true) (fun σ=>∃a b,σ = [none,a,b,some (.aQ m)]) ((List.range xs.length).filter (dQ xs r)) [none,none,none,some (.aQ m)] g ⟨_,_,rfl⟩ (by
  rintro k hk σ ⟨a,b,rfl⟩
  rw [List.mem_filter,List.mem_range] at hk
  have hm2:=hN k hk.1 hk.2
  obtain⟨e,he,he2⟩:=List.mem_map.mp hm2
  have hrn:Rm p (b_ xs r k):=by rw [<- he2];exact hrm e he
  have kk:=g0 hrn
  have hg:bD (dR es) (rD (b_ xs r k))=some e.2:=i_ hrm hnd (by rw [<- he2];exact he)
  refine⟨[none,some (.int k),some (rD (b_ xs r k)),some (.aQ m)],by simp [gh],by simp,?_,⟨_,_,rfl⟩⟩
  simp [kk,hg,hm])
 have c2:bZ (gT 2 (ax (gN 1) (ax (gN 2) aY))) bq (ao ik (af 2) (af 3)) (ji xs r) [none,none,none,some (.aQ m)] g=some (((List.range xs.length).filter (dQ xs r)).map fun _=>D.bl true,g):=c1
 have bm:=dy (fun _:Nat=>true) ((List.range xs.length).filter (dQ xs r))
 have sb:bu [none,none,none,some 1] (S6 xs m (some (.int (r.1:Nat))) (some (.tup r.2))) = [none,none,none,some (.aQ m)]:=rfl
 have cc:Cp le (S6 xs m (some (.int (r.1:Nat))) (some (.tup r.2))) g=some (.bl true,g):=by
  unfold Cp
  generalize ji xs r=LL at *
  simp [ld,hz,sb,c2,bm]
 unfold uo
 simp [ev,cc]
theorem BD {pl en le:Fn}{xs:List Rt}{p:Int}(hx:∀x∈xs,bJ p x)(hn:xs.length<=100)(hp:j9 p pl)(he:mY en)(hle:fX p le):rS xs p (az false 6 2 (rq pl en le)):=fun es g m hrm hnd hC hm hc=>by
 have hk:aO (dR es)=(keys es).map rD:=by rw [qo];simp [keys]
 have e1:=hp xs g hx hn hc
 have e2:=he xs g hn
 have lp:∀(k:Nat) (c4 c5:Option D),k<=(keys es).length->∃d4 d5,fv m (keys es).length (gT 2 (ax (gN 4) (ax (gN 5) aY))) (uo le) k (S6 xs m c4 c5) g=some (.nx,S6 xs m d4 d5,g):=fun k=>by
  induction k with
  | zero=>intro c4 c5 _;exact⟨c4,c5,by simp [fv,hm,hk]⟩
  | succ k ih =>
   intro c4 c5 hkl
   have hlt:(keys es).length-(k+1)<(keys es).length:=by omega
   have hr:(keys es)[(keys es).length-(k+1)]∈keys es:=List.getElem_mem hlt
   generalize hrr:(keys es)[(keys es).length-(k+1)]=r at *
   have hget:((keys es).map rD)[(keys es).length-(k+1)]? = some (rD r):=by simp [hlt,hrr]
   have tg:gT 2 (ax (gN 4) (ax (gN 5) aY)) (rD r) (S6 xs m c4 c5) g=some (S6 xs m (some (.int (r.1:Nat))) (some (.tup r.2)),g):=by simp [rD]
   have bd:=Bq hx hn hle hrm hnd hC hm hc hr
   obtain⟨d4,d5,ih⟩:=ih (some (.int (r.1:Nat))) (some (.tup r.2)) (by omega)
   refine⟨d4,d5,?_⟩
   rw [<- ih]
   simp only [fv,hm,hk,Option.map_some,Option.bind_some,List.length_map,if_true,hget,tg,bd]
 obtain⟨d4,d5,e3⟩:=lp (keys es).length none none (Nat.le_refl _)
 refine bL (σ':=S6 xs m d4 d5) rfl ?_ rfl
 have kl:(aO (dR es)).length=(keys es).length:=by rw [hk];simp
 have i1:fG (af 1) (S6 xs m none none) g=some (m,(keys es).length,g):=by simp [hm,kl]
 have fo:jH (fG (af 1)) (gT 2 (ax (gN 4) (ax (gN 5) aY))) (uo le) (S6 xs m none none) g=some (.nx,S6 xs m d4 d5,g):=by
  rw [vC,i1]
  exact e3
 show rq pl en le [some (.tup (xs.map rt)),some (.aQ m),none,none,none,none] g=_
 unfold rq
 simp [e1,e2,fo]
def Bz:FE:=bA bB (bW (af 1)) [none,none] (gN 1) (aH (ao oEq (ao aw (ao aw (af 1) (fC (.int 1))) (fC (.int 0))) (fC (.str "put")))) (ao aw (ao aw (af 1) (fC (.int 1))) (fC (.int 2)))
def Ca (room:Fn):FE:=aq dw (aa (bA bB (bW (af 2)) [none,none,some 0,some 1,some 3] (gN 1) bq (aq room (aa (af 2) (aa (af 3) (aa (af 4) (aa (af 1) aj)))))) aj)
def ug (bits:Fn):FS:=aF (fC (.bl true)) (f7 (af 4) (aN aG (aa (aq bits (aa (ao aw (af 5) (fC (.int 0))) aj)) (aa (ao aw (af 5) (fC (.int 1))) aj))))
def AA (zeros lne:Fn):FS:=aB (cT (ao ik (aN aG (aa (fC (.int 0)) (aa (aq zeros (aa (af 0) aj)) aj))) (af 4)) (aq lne (aa (af 1) (aa (af 4) aj))))
def oo (bits zeros room lne:Fn):FS:=av (aF Bz (gN 3)) (av (bH (gZ (cy (bO (eE .tuple (af 2)))) (cy (bO (Ca room)))) (aB (fC (.bl false))) aL) (av (aF ku (gN 4)) (av (ed (bW (af 2)) (gN 5) (ug bits)) (AA zeros lne))))
theorem Path.JQ {xs p ks r}(h:Path xs p ks r):r.1<2 ^ xs.length:=Nat.lt_pow_two_of_testBit _ fun i hi=>by
 rw [h.bits]
 simp only [List.contains_eq_mem,decide_eq_false_iff_not]
 intro z
 have:=h.lt i z
 omega
def BF (x:Rt):D:=match x.1.dd with
 | .tup [_,_,v]=>v
 | _=>.non
theorem AK {p:Int}{xs:List Rt}{g:G}{c2 c3 c4 c5:Option D}(hx:∀x∈xs,bJ p x)(hn:xs.length<=100):∃vs,Bz [some (.int p),some (.tup (xs.map rt)),c2,c3,c4,c5] g=some (.lst vs,g):=by
 have hz:aD xs.length=true:=a_ (by omega)
 have c1:=eB (f:=rt) (t:=gN 1) (c:=aH (ao oEq (ao aw (ao aw (af 1) (fC (.int 1))) (fC (.int 0))) (fC (.str "put")))) (e:=ao aw (ao aw (af 1) (fC (.int 1))) (fC (.int 2))) (cB:=fun x=>!(bN x.1.dd)) (h:=BF) (fun σ=>∃a,σ = [none,a]) xs [none,none] g ⟨_,rfl⟩ (by
  rintro x hm σ ⟨a,rfl⟩
  refine⟨[none,some (rt x)],by simp,?_,fun hl=>?_,⟨_,rfl⟩⟩
  . rcases (hx x hm).r.dd with e | ⟨q,v,e,_⟩
    . simp [rt,eV,e,el,bN,Fe]
    . simp [rt,eV,e,el,bN,sZ]
  . rcases (hx x hm).r.dd with e | ⟨q,v,e,_⟩
    . rw [e] at hl;simp [bN] at hl
    . simp [rt,eV,e,sg,BF])
 refine⟨(xs.filter fun x=>!(bN x.1.dd)).map BF,?_⟩
 have sb:∀σ:Sg,bu [none,none] σ = [none,none]:=fun _=>rfl
 unfold Bz
 simp [hz,sb,c1]
theorem xZ {xs:List Rt}{p:Int}{room:Fn}(hR:lb p room){vs:D}{r:aC}{g:G}(hr:Rm p r)(hn:xs.length<=100):room [.int p,.tup (xs.map rt),vs,bx xs r] g=some (.bl true,g) :=
 hR (xs.map rt) vs (dD xs.length r.1) r.2 g (sI _ _) (fun k hk=>by
  rw [List.length_map]
  exact List.mem_range.mp (List.mem_filter.mp hk).1) (by rw [List.length_map];exact hn) hr
def dT (rs:List aC):List (aC×D):=rs.map fun r=>(r,D.bl true)
theorem pQ (rs:List aC):(dT rs).map (·.1)=rs:=by simp [dT,Function.comp_def]
theorem ot {bits:Fn}{xs:List Rt}{p:Int}(hb:jJ bits)(hn:xs.length<=100){g:G}{c2 c3:Option D}:∀(rest done:List aC) (c5:Option D),(∀r∈done++rest,Rm p r/\r.1<2 ^ xs.length)->(done++rest).Nodup->(done++rest).length<=600000 ->
  ∃c5',forL (gN 5) (ug bits) (rest.map (bx xs)) [some (.int p),some (.tup (xs.map rt)),c2,c3,some (.aQ g.length),c5] (g ++ [dR (dT done)])=some (.nx,[some (.int p),some (.tup (xs.map rt)),c2,c3,some (.aQ g.length),c5'],g ++ [dR (dT (done++rest))])
 | [],done,c5,_,_,_=>⟨c5,by simp [forL]⟩
 | r::rest,done,c5,h,hnd,hl=>by
  obtain⟨hrm,hlt⟩:=h r (by simp)
  have kk:=g0 hrm
  have e1:=hb (dD xs.length r.1) (g ++ [dR (dT done)]) (fun k hk=>by have:=List.mem_range.mp (List.mem_filter.mp hk).1;omega) (by
   have:=List.length_filter_le (fun i=>r.1.testBit i) (List.range xs.length)
   simp at this
   simp only [dD]
   omega)
  rw [v7 hlt] at e1
  have hnot:∀e∈dT done,e.1≠r:=fun e he z=>by
   obtain⟨q,hq,rfl⟩:=List.mem_map.mp he
   rw [List.nodup_append] at hnd
   exact hnd.2.2 q hq r (by simp) z
  obtain⟨hg,hp⟩:=ll (p:=p) (es:=dT done) (r:=r) (fun e he=>by
   obtain⟨q,hq,rfl⟩:=List.mem_map.mp he
   exact(h q (by simp [hq])).1) hrm hnot
  have hs:nS (dR (dT done))=true:=by
   unfold nS aD
   refine decide_eq_true ?_
   rw [sF]
   simp [dT] at hl ⊢
   omega
  have q1:=hp (.bl true)
  have bd:ug bits [some (.int p),some (.tup (xs.map rt)),c2,c3,some (.aQ g.length),some (bx xs r)] (g ++ [dR (dT done)])=some (.nx,[some (.int p),some (.tup (xs.map rt)),c2,c3,some (.aQ g.length),some (bx xs r)],g ++ [dR (dT (done ++ [r]))]):=by
   have rd:rD r = .tup [.int (r.1:Nat),.tup r.2]:=rfl
   have dd:dT done ++ [(r,D.bl true)]=dT (done ++ [r]):=by simp [dT]
   rw [dd] at q1
   rw [rd] at kk hg q1
   simp [ug,bx,el,eV,e1,kk,hs,q1,List.set_append]
  have ap:done++r::rest=(done ++ [r])++rest:=by simp
  rw [ap] at h hnd hl ⊢
  obtain⟨c5',ih⟩:=ot hb hn (g:=g) (c2:=c2) (c3:=c3) rest (done ++ [r]) (some (bx xs r)) h hnd hl
  refine⟨c5',?_⟩
  rw [<- ih,List.map_cons]
  simp only [forL,xR,Option.bind_some]
  simp [bd]
def zX (p:Int)(f:Fn):Prop:=∀xs es g,(∀x∈xs,bJ p x)->xs.length<=100->cG xs p es->es.length<=600000->de xs p es->Clean g->f [.int p,.tup (xs.map rt),.tup ((keys es).map (bx xs))] g=some (.bl true,g)
theorem ED {bi z room lne:Fn}{p:Int}(hb:jJ bi)(hz:jG p z)(hr:lb p room)(hl:∀xs,(∀x∈xs,bJ p x)->xs.length<=100->rS xs p lne):zX p (az false 6 3 (oo bi z room lne)):=fun xs es g hx hn C hle hC hc=>by
 have key:wp (az false 6 3 (oo bi z room lne) [.int p,.tup (xs.map rt),.tup ((keys es).map (bx xs))] g) fun q=>q=(.bl true,g):=by
  refine fW rfl ?_
  show wp (oo bi z room lne [some (.int p),some (.tup (xs.map rt)),some (.tup ((keys es).map (bx xs))),none,none,none] g) _
  obtain⟨vs,e1⟩:=AK (p:=p) (g:=g) (c2:=some (.tup ((keys es).map (bx xs)))) (c3:=none) (c4:=none) (c5:=none) hx hn
  have kl:(keys es).length=es.length:=by simp [keys]
  have hz1:aD (keys es).length=true:=by unfold aD;exact decide_eq_true (by omega)
  have c1:=dH (f:=bx xs) (t:=gN 1) (c:=bq) (e:=aq room (aa (af 2) (aa (af 3) (aa (af 4) (aa (af 1) aj))))) (h:=fun _=>D.bl true) (fun σ=>∃a,σ = [none,a,some (.int p),some (.tup (xs.map rt)),some (.lst vs)]) (keys es) [none,none,some (.int p),some (.tup (xs.map rt)),some (.lst vs)] g ⟨_,rfl⟩ (by
   rintro r hm σ ⟨a,rfl⟩
   refine⟨[none,some (bx xs r),some (.int p),some (.tup (xs.map rt)),some (.lst vs)],by simp,by simp,?_,⟨_,rfl⟩⟩
   have:=xZ hr (vs:=.lst vs) (g:=g) (C.oW hm) hn
   simp [this])
  have bm:=dy (fun _:aC=>true) (keys es)
  have e2:Ca room [some (.int p),some (.tup (xs.map rt)),some (.tup ((keys es).map (bx xs))),some (.lst vs),none,none] g=some (.bl true,g):=by
   have sb:bu [none,none,some 0,some 1,some 3] ([some (.int p),some (.tup (xs.map rt)),some (.tup ((keys es).map (bx xs))),some (.lst vs),none,none]:Sg) = [none,none,some (.int p),some (.tup (xs.map rt)),some (.lst vs)]:=rfl
   unfold Ca
   simp [hz1,sb,c1,bm]
  obtain⟨c5,e3⟩:=ot hb hn (xs:=xs) (p:=p) (g:=g) (c2:=some (.tup ((keys es).map (bx xs)))) (c3:=some (.lst vs)) (keys es) [] none (fun r hm=>by
   rw [List.nil_append] at hm
   refine⟨C.oW hm,?_⟩
   obtain⟨e,he,rfl⟩:=List.mem_map.mp hm
   obtain⟨i,hi⟩:=List.mem_iff_getElem?.mp he
   obtain⟨ks,hp⟩:=C.path i e hi
   exact hp.JQ) (by rw [List.nil_append];exact C.nd) (by rw [List.nil_append,kl];exact hle)
  rw [List.nil_append] at e3
  have rm':∀e∈dT (keys es),Rm p e.1:=fun e he=>by
   obtain⟨q,hq,rfl⟩:=List.mem_map.mp he
   exact C.oW hq
  have kk':keys (dT (keys es))=keys es:=pQ _
  have nd':((dT (keys es)).map (·.1)).Nodup:=by rw [pQ];exact C.nd
  have cl':de xs p (dT (keys es)):=by
   unfold de
   rw [kk']
   exact hC
  have nr:∀n,aP n (dR (dT (keys es)))=true:=fun n=>cM fun d hd=>by
   obtain⟨e,he,h⟩:=tP hd
   rcases h with rfl | rfl
   . exact kW (rm' e he) n
   . obtain⟨q,hq,rfl⟩:=List.mem_map.mp he
     rfl
  have cg:Clean (g ++ [dR (dT (keys es))]):=fun ys hy n=>by
   rcases List.mem_append.mp hy with h | h
   . exact hc ys h n
   . simp at h;subst h;exact nr n
  have hm:(g ++ [dR (dT (keys es))])[g.length]? = some (dR (dT (keys es))):=by simp
  have e4:=hl xs hx hn (dT (keys es)) (g ++ [dR (dT (keys es))]) g.length rm' nd' cl' hm cg
  have e5:=hz (g ++ [dR (dT (keys es))])
  have hg:bD (dR (dT (keys es))) (rD (first p))=some (.bl true):=i_ rm' nd' (List.mem_map.mpr ⟨_,hC.1,rfl⟩)
  have kk:=g0 (C.oW hC.1)
  have fd:rD (first p) = .tup [.int 0,.tup (zs p)]:=rfl
  rw [fd] at hg kk
  have e6:AA z lne [some (.int p),some (.tup (xs.map rt)),some (.tup ((keys es).map (bx xs))),some (.lst vs),some (.aQ g.length),c5] (g ++ [dR (dT (keys es))])=some (.rt (.bl true),[some (.int p),some (.tup (xs.map rt)),some (.tup ((keys es).map (bx xs))),some (.lst vs),some (.aQ g.length),c5],g ++ [dR (dT (keys es))]):=by
   unfold AA
   simp [e5,kk,hg,e4]
  have fo:forL (gN 5) (ug bi) ((keys es).map (bx xs)) [some (.int p),some (.tup (xs.map rt)),some (.tup ((keys es).map (bx xs))),some (.lst vs),some (.aQ g.length),none] (g ++ [[]])=some (.nx,[some (.int p),some (.tup (xs.map rt)),some (.tup ((keys es).map (bx xs))),some (.lst vs),some (.aQ g.length),c5],g ++ [dR (dT (keys es))]):=e3
  have all_:oo bi z room lne [some (.int p),some (.tup (xs.map rt)),some (.tup ((keys es).map (bx xs))),none,none,none] g=some (.rt (.bl true),[some (.int p),some (.tup (xs.map rt)),some (.tup ((keys es).map (bx xs))),some (.lst vs),some (.aQ g.length),c5],g ++ [dR (dT (keys es))]):=by
   unfold oo
   generalize (keys es).map (bx xs)=yy at *
   simp [e1,e2,fo,e6,eu]
  rw [all_]
  simp only [eX]
  exact⟨by simp [bp],by simpa using hc.all _,by simp,by simp⟩
 obtain⟨q,e,rfl⟩:=key
 exact e
def dM (xs:List Rt)(p:Int)(i:Nat):List D:=(xs.take i).foldl (fun s y=>dB s y.1.dd) (zs p)
def Chain (xs:List Rt):Prop:=∀i j,i<xs.length->j<xs.length->eA (ay xs i) (ay xs j)=decide (i<j)
theorem nA {xs:List Rt}{p:Int}{i:Nat}(h:i<xs.length):dM xs p (i+1)=dB (dM xs p i) (ay xs i).1.dd:=by
 have:xs.take (i+1)=xs.take i ++ [ay xs i]:=by
  rw [List.take_succ,List.getElem?_eq_getElem h]
  simp [ay,h]
 unfold dM
 rw [this,List.foldl_append]
 rfl
theorem eN {xs:List Rt}{p:Int}(hc:Chain xs){ks:List Nat}{r:aC}(h:Path xs p ks r):ks=List.range ks.length/\ks.length<=xs.length/\r.2=dM xs p ks.length /\ ∀i<ks.length,fZ (ay xs i) (dM xs p i)=true:=by
 induction h with
 | nil=>exact⟨rfl,Nat.zero_le _,rfl,fun i hi=>by simp at hi⟩
 | @snoc ks r k h hk hcan ih =>
  obtain⟨h1,h2,h3,h4⟩:=ih
  have hb:=h.bits
  simp only [dQ,Bool.and_eq_true,Bool.not_eq_true',List.all_eq_true] at hcan
  obtain⟨c1,c2,c3⟩:=hcan
  have m1:∀i,i∈ks ↔ i<ks.length:=fun i=>by
    rw [h1];simp
  have e1:k ∉ ks:=fun z=>by
    rw [hb k] at c1
    simp [z] at c1
  have e2:ks.length<=k:=Nat.not_lt.mp fun z=>e1 ((m1 k).mpr z)
  have e3:k=ks.length:=by
    rcases Nat.lt_or_eq_of_le e2 with z | z
    . have hm:ks.length∈early xs k:=List.mem_filter.mpr ⟨List.mem_range.mpr (by omega),by rw [hc _ _ (by omega) hk];simp [z]⟩
      have:=c2 _ hm
      rw [hb] at this
      have:ks.length∈ks:=by simpa using this
      exact absurd ((m1 _).mp this) (Nat.lt_irrefl _)
    . exact z.symm
  subst e3
  refine⟨?_,?_,?_,fun i hi=>?_⟩
  . rw [List.length_append,List.length_singleton,List.range_succ,<- h1]
  . simp;omega
  . rw [List.length_append,List.length_singleton,nA hk,<- h3]
    rfl
  . rw [List.length_append,List.length_singleton] at hi
    rcases Nat.lt_or_eq_of_le (Nat.le_of_lt_succ hi) with z | z
    . exact h4 i z
    . rw [z,<- h3];exact c3
theorem oJ {xs:List Rt}{p:Int}(hc:Chain xs):∀m,m<=xs.length->(∀i<m,fZ (ay xs i) (dM xs p i)=true)->∃r,Path xs p (List.range m) r
 | 0,_,_=>⟨_,Path.nil⟩
 | m+1,hm,ho=>by
  obtain⟨r,hp⟩:=oJ hc m (by omega) fun i hi=>ho i (by omega)
  obtain⟨h1,h2,h3,h4⟩:=eN hc hp
  rw [List.length_range] at h3
  refine⟨b_ xs r m,?_⟩
  rw [List.range_succ]
  refine Path.snoc hp (by omega) ?_
  have hb:=hp.bits
  simp only [dQ,Bool.and_eq_true,Bool.not_eq_true',List.all_eq_true]
  refine⟨by rw [hb];simp,fun o hoo=>?_,by rw [h3];exact ho m (by omega)⟩
  obtain⟨z1,z2⟩:=List.mem_filter.mp hoo
  rw [hc o m (List.mem_range.mp z1) (by omega)] at z2
  rw [hb]
  simpa using z2
def r_ (xs:List Rt)(p:Int)(m:Nat):aC:=(bF m fun _=>true,dM xs p m)
theorem sh {xs:List Rt}{p:Int}(hc:Chain xs){ks:List Nat}{r:aC}(h:Path xs p ks r):r=r_ xs p ks.length:=by
 obtain⟨h1,h2,h3,h4⟩:=eN hc h
 have hb:=h.bits
 obtain⟨b,st⟩:=r
 dsimp only at h3 hb
 unfold r_
 rw [h3,Prod.mk.injEq]
 refine⟨Nat.eq_of_testBit_eq fun i=>?_,rfl⟩
 rw [hb,i0,h1]
 simp
theorem mi {xs:List Rt}{p:Int}(hc:Chain xs)(hn:xs.length<=1000):sY xs p:=fun es C=>by
 have:=jZ (V:=keys es) (W:=(List.range (xs.length+1)).map (r_ xs p)) C.nd fun r hr=>by
  obtain⟨e,he,rfl⟩:=List.mem_map.mp hr
  obtain⟨i,hi⟩:=List.mem_iff_getElem?.mp he
  obtain⟨ks,hp⟩:=C.path i e hi
  refine List.mem_map.mpr ⟨ks.length,List.mem_range.mpr ?_,(sh hc hp).symm⟩
  have:=(eN hc hp).2.1
  omega
 simp [keys] at this
 omega
theorem sG {xs:List Rt}{p:Int}(hc:Chain xs){ks:List Nat}{r:aC}(h:Path xs p ks r)(he:eR xs r.1=true){i:Nat}(hi:i<xs.length)(hs:(ay xs i).1.e.isSome=true):i<ks.length:=by
 have hb:=h.bits i
 obtain⟨h1,_⟩:=eN hc h
 unfold eR at he
 rw [List.all_eq_true] at he
 have hm:(ay xs i,i)∈xs.zipIdx:=by
  have:xs.zipIdx[i]? = some (ay xs i,i):=by simp [ay,hi]
  exact List.mem_of_getElem? this
 have:=he _ hm
 dsimp only at this
 cases hq:(ay xs i).1.e with
 | none=>rw [hq] at hs;cases hs
 | some e =>
  rw [hq] at this
  simp [hb] at this
  rw [h1] at this
  simpa using this
theorem pj {xs:List Rt}{p:Int}(hc:Chain xs){m:Nat}{r:aC}(h:Path xs p (List.range m) r)(he:∀i,i<xs.length->(ay xs i).1.e.isSome=true->i<m):eR xs r.1=true:=by
 unfold eR
 rw [List.all_eq_true]
 rintro⟨x,i⟩ hm
 obtain⟨hi,hx⟩:=List.mem_zipIdx' hm
 have hx:x=ay xs i:=by rw [hx];simp [ay,hi]
 subst hx
 dsimp only
 cases hq:(ay xs i).1.e with
 | none=>rfl
 | some e =>
  have:=he i hi (by rw [hq];rfl)
  rw [h.bits]
  simp [this]
theorem mv {xs:List Rt}{p:Int}(hc:Chain xs){d:D}(h:oD xs p d){m:Nat}(hm:m<=xs.length)(he:∀i,i<xs.length->((ay xs i).1.e.isSome=true ↔ i<m)) :
   ((∀i<m,fZ (ay xs i) (dM xs p i)=true) /\ ∃k,m<=k/\k<=xs.length/\d = .tup [.str "order",.tup (kD (List.range k))]) \/
   ((∃i<m,fZ (ay xs i) (dM xs p i)=false) /\ ∃es,d = .tup [.str "none",.tup ((keys es).map (bx xs))]/\cG xs p es/\de xs p es):=by
 rcases h.2 with⟨ks,r,e1,hp,he1⟩ | ⟨es,e1,C,hC⟩
 . obtain⟨h1,h2,h3,h4⟩:=eN hc hp
   have hle:m<=ks.length:=by
    cases m with
    | zero=>exact Nat.zero_le _
    | succ m=>exact sG hc hp he1 (i:=m) (by omega) ((he m (by omega)).mpr (by omega))
   exact .inl ⟨fun i hi=>h4 i (by omega),ks.length,hle,h2,by rw [e1,<- h1]⟩
 . refine .inr ⟨?_,es,e1,C,hC⟩
   refine Classical.byContradiction fun hn=>?_
   have hall:∀i<m,fZ (ay xs i) (dM xs p i)=true:=fun i hi=>by
    cases hq:fZ (ay xs i) (dM xs p i) with
    | true=>rfl
    | false=>exact absurd ⟨i,hi,hq⟩ hn
   obtain⟨r,hp⟩:=oJ hc m hm hall
   have:=pj hc hp fun i hi hs=>(he i hi).mp hs
   rw [(hC.no hp).2] at this
   cases this
def Ff:FS:=fJ 4 5 (aa (aN aG (aa (fC (.str "look")) aj)) (aa (af 2) aj))
def Fl (take val:Fn):FS:=bH (aH (ao oLt (aq take (aa (af 0) (aa (fC (.int 5)) aj))) (fC (.int 3)))) (fJ 4 5 (aa (aN aG (aa (fC (.str "put")) (aa (aq take (aa (af 0) (aa (af 1) aj))) (aa (aq val (aa (af 0) aj)) aj)))) (aa (fC .non) aj))) aL
def Cy (take pick:Fn):FS:=aB (aN aG (aa (aq take (aa (af 0) (aa (fC (.int 10)) aj))) (aa (af 4) (aa (af 3) (aa (ao aM (ao aM (af 3) (fC (.int 1))) (aq pick (aa (af 0) (aa (aN cZ (aa (fC (.int 0)) (aa (fC (.int 1)) (aa (fC (.int 7)) aj)))) aj)))) (aa (af 5) aj))))))
def kM (take pick val:Fn):FS:=av Ff (av (Fl take val) (Cy take pick))
structure oT (p:Int)(st:List D)(at_:Int)(x:Rt):Prop where
 g:bJ p x
 b:x.1.b=at_
 e:∃e,x.1.e=some e/\at_<e/\e<=at_+8
 t:x.2=if bN x.1.dd=true then .tup st else .non
set_option maxHeartbeats 1000000 in
theorem Aa {take pick val:Fn}(ht:eO take)(hp:eQ pick)(hv:gn val){n:Nat}{g:G}{B p at_:Int}{st:List D}{Q:D×G->Prop}(hB:B+100<2 ^ 40)(p0:0<p)(hp2:p<=100)(hs:St p st)(a0:0<=at_)(hd:Hd g n B)(hc:Clean g)
   (q:∀x g',oT p st at_ x->Hd g' n (B+10)->Fr n g g'->Q (rt x,g')) :
   wp (az false 6 4 (kM take pick val) [.ref n,.int p,.tup st,.int at_] g) Q:=by
 refine fW rfl ?_
 have fin:∀(dd tl:D) (g1:G) (B1:Int),B1<=B+3->fK p dd->(tl=if bN dd=true then .tup st else .non)->Hd g1 n B1->Fr n g g1->wp (Cy take pick [some (.ref n),some (.int p),some (.tup st),some (.int at_),some dd,some tl] g1) fun r=>match r.1 with
   | .rt d=>L3.bp g.length d=true/\(∀x,x∈List.take g.length r.2.2->aP g.length x=true)/\g.length<=r.2.2.length/\Q (d,r.2.2.take g.length)
   | .nx=>(∀x,x∈List.take g.length r.2.2->aP g.length x=true)/\g.length<=r.2.2.length/\Q (.non,r.2.2.take g.length)
   | _=>False:=fun dd tl g1 B1 hb hdd htl h1 f1=>by
   unfold Cy
   simp
   refine ht.w (by omega) (by decide) (by decide) h1 fun h g2 h0 h9 h2 f2=>?_
   simp
   refine hp.w (by omega) (by simp) (by simp) h2 fun c g3 hc' h3 f3=>?_
   obtain⟨c,rfl,c0,c7⟩:∃i:Int,c = .int i/\0<=i/\i<=7:=by
    simp only [List.mem_cons,List.mem_nil_iff,or_false] at hc'
    rcases hc' with rfl | rfl | rfl<;>exact⟨_,rfl,by decide,by decide⟩
   simp
   have ff:=(f1.trans f2).trans f3
   have cl:=(hc.fr ff h3).all g.length
   have tk:g3.take g.length=g3:=List.take_of_length_le (by rw [ff.1];exact Nat.le_refl _)
   have R:oT p st at_ (⟨4*at_+1,0,h,dd,at_,some (at_+1+c)⟩,tl):=by
    refine⟨⟨⟨h0,by show h<=9;omega,hdd,a0,fun x e=>by cases e;show at_<at_+1+c;omega,by show 4*at_<4*at_+1;omega,fun x e=>by cases e;show 4*at_+1<4*(at_+1+c);omega⟩,?_⟩,rfl,⟨_,rfl,by omega,by omega⟩,htl⟩
    dsimp only
    rw [htl]
    cases hl:bN dd with
    | true=>simpa using St.B hs
    | false=>simp
   have nr:=bJ.bp R.g g.length
   refine⟨nr,fun x hx=>List.all_eq_true.mp cl x (List.mem_of_mem_take hx),by rw [ff.1];exact Nat.le_refl _,?_⟩
   rw [tk]
   exact q _ g3 R (h3.mono (by omega)) ff
 show wp (kM take pick val [some (.ref n),some (.int p),some (.tup st),some (.int at_),none,none] g) _
 unfold kM Ff Fl
 simp
 refine ht.w (by omega) (by decide) (by decide) hd fun r g1 r0 r1 h1 f1=>?_
 by_cases hr:r<3
 . simp [hr]
   refine ht.w (by omega) p0 (by omega) h1 fun c g2 c0 c1 h2 f2=>?_
   simp
   refine hv.w (by omega) h2 fun v g3 v0 h3 f3=>?_
   simp
   exact fin _ _ g3 _ (by omega) (.inr ⟨c,v,rfl,c0,c1,v0⟩) (by simp [bN,sZ]) h3 ((f1.trans f2).trans f3)
 . simp [hr]
   exact fin _ _ g1 _ (by omega) (.inl rfl) (by simp [bN]) h1 f1
structure Run (p:Int)(xs:List Rt)(st:List D)(a:Int):Prop where
 g:∀x∈xs,bJ p x
 se:st=dM xs p xs.length
 sv:St p st
 a0:0<=a
 en:∀x∈xs,∃e,x.1.e=some e/\e<=a/\x.1.b<e
 pw:xs.Pairwise fun x y=>∃e,x.1.e=some e/\e<=y.1.b
 tl:∀i,i<xs.length->(ay xs i).2=if bN (ay xs i).1.dd=true then .tup (dM xs p i) else .non
theorem hW {xs:List Rt}{p:Int}{x:Rt}{i:Nat}(h:i<=xs.length):dM (xs ++ [x]) p i=dM xs p i:=by
 unfold dM
 rw [List.take_append_of_le_length h]
theorem jz {xs:List Rt}{x:Rt}{i:Nat}(h:i<xs.length):ay (xs ++ [x]) i=ay xs i:=by
 simp [ay,List.getElem?_append_left h]
theorem iE {xs:List Rt}{x:Rt}:ay (xs ++ [x]) xs.length=x:=by simp [ay]
theorem Run.step {p:Int}{xs:List Rt}{st:List D}{a a':Int}{x:Rt}(h:Run p xs st a)(hx:oT p st a x)(ha:∀e,x.1.e=some e->e<=a'):Run p (xs ++ [x]) (dB st x.1.dd) a':=by
 obtain⟨e,he,e1,e2⟩:=hx.e
 have hea:=ha e he
 have a0:=h.a0
 refine⟨fun y hy=>?_,?_,St.put h.sv hx.g.r.dd,by omega,fun y hy=>?_,?_,fun i hi=>?_⟩
 . rcases List.mem_append.mp hy with hy | hy
   . exact h.g y hy
   . simp at hy;subst hy;exact hx.g
 . rw [List.length_append,List.length_singleton,nA (by simp),hW (Nat.le_refl _),iE,<- h.se]
 . rcases List.mem_append.mp hy with hy | hy
   . obtain⟨e',h1,h2,h3⟩:=h.en y hy
     exact⟨e',h1,by omega,h3⟩
   . simp at hy;subst hy;exact⟨e,he,hea,by rw [hx.b];exact e1⟩
 . rw [List.pairwise_append]
   refine⟨h.pw,by simp,fun y hy z hz=>?_⟩
   simp at hz
   subst hz
   obtain⟨e',h1,h2,h3⟩:=h.en y hy
   exact⟨e',h1,by rw [hx.b];exact h2⟩
 . rw [List.length_append,List.length_singleton] at hi
   rcases Nat.lt_or_eq_of_le (Nat.le_of_lt_succ hi) with z | z
   . rw [jz z,hW (by omega)];exact h.tl i z
   . subst z
     rw [iE,hW (Nat.le_refl _),<- h.se]
     exact hx.t
theorem oh {xs:List Rt}(be:∀x∈xs,∀e,x.1.e=some e->x.1.b<e)(pw:xs.Pairwise fun x y=>∃e,x.1.e=some e/\e<=y.1.b):Chain xs:=fun i j hi hj=>by
 have ei:ay xs i=xs[i]:=by simp [ay,hi]
 have ej:ay xs j=xs[j]:=by simp [ay,hj]
 rw [B_,ei,ej]
 rcases Nat.lt_trichotomy i j with h | h | h
 . obtain⟨e,h1,h2⟩:=List.pairwise_iff_getElem.mp pw i j hi hj h
   rw [h1]
   simp [h,h2]
 . subst h
   cases he:xs[i].1.e with
   | none=>simp
   | some e =>
    have:=be _ (List.getElem_mem hi) e he
    simp
    omega
 . obtain⟨e,h1,h2⟩:=List.pairwise_iff_getElem.mp pw j i hj hi h
   have h3:=be _ (List.getElem_mem hj) e h1
   cases he:xs[i].1.e with
   | none=>simp;omega
   | some e' =>
    have h4:=be _ (List.getElem_mem hi) e' he
    have h5:¬i<j:=by omega
    simp [h5]
    omega
theorem Mk.cl {g gg:G}{n:Nat}{B:Int}{xs:List D}(m:Mk g gg n B xs)(hc:Clean g)(hx:∀k,aP k xs=true):Clean gg:=fun ys hy k=>by
 obtain⟨i,hi⟩:=List.mem_iff_getElem?.mp hy
 have hil:=(List.getElem?_eq_some_iff.mp hi).1
 have hl:=m.len
 by_cases h1:i=n
 . subst h1
   obtain⟨a,b,c,h2,_⟩:=m.hd
   rw [hi] at h2
   cases h2
   rfl
 . by_cases h2:i<g.length
   . rw [m.old i h1 h2] at hi
     exact hc ys (List.mem_of_getElem? hi) k
   . have:i=g.length:=by omega
     subst this
     rw [m.at_] at hi
     cases hi
     exact hx k
def E_ (row:Fn):FS:=aF (aq row (aa (af 0) (aa (af 1) (aa (af 3) (aa (af 4) aj))))) (gN 6)
def wX:FS:=bH (aH (ao me (ao aw (af 6) (fC (.int 4))) (fC .non))) (aF (ao aM (ao aM (cz (af 3) cA (bQ (ao aw (ao aw (af 6) (fC (.int 1))) (fC (.int 1))))) (aN aG (aa (ao aw (ao aw (af 6) (fC (.int 1))) (fC (.int 2))) aj))) (cz (af 3) (bQ (ao aM (ao aw (ao aw (af 6) (fC (.int 1))) (fC (.int 1))) (fC (.int 1)))) cA)) (gN 3)) aL
def Fv (pick:Fn):FS:=aF (ao aM (ao aw (af 6) (fC (.int 3))) (aq pick (aa (af 0) (aa (aN cZ (aa (fC (.int 0)) (aa (fC (.int 0)) (aa (fC (.int 1)) (aa (fC (.int 4)) aj))))) aj)))) (gN 4)
def E2:FS:=dG (dP isRef cx (af 2) (aa (af 6) aj))
def Fy (pick row:Fn):FS:=av (E_ row) (av wX (av (Fv pick) E2))
def jB (take pick row:Fn):FS:=av (ke 2 3 4 (aa (aN mkRef aj) (aa (ao bS (aN aG (aa (fC (.int 0)) aj)) (af 1)) (aa (aq take (aa (af 0) (aa (fC (.int 3)) aj))) aj)))) (av (ed (iM (aa (aq take (aa (af 0) (aa (fC (.int 15)) aj))) aj)) (gN 5) (Fy pick row)) (aB (af 2)))
def oG (p:Int)(f:Fn):Prop:=∀{n:Nat} {g:G} {B at_:Int} {st:List D} {Q:D×G->Prop},B+100<2 ^ 40->St p st->0<=at_->Hd g n B->Clean g->(∀x g',oT p st at_ x->Hd g' n (B+10)->Fr n g g'->Q (rt x,g'))->wp (f [.ref n,.int p,.tup st,.int at_] g) Q
theorem zJ {take pick val:Fn}(ht:eO take)(hp:eQ pick)(hv:gn val){p:Int}(p0:0<p)(hp2:p<=100):oG p (az false 6 4 (kM take pick val)):=fun {n g B at_ st Q} hB hs a0 hd hc q=>Aa ht hp hv hB p0 hp2 hs a0 hd hc q
theorem AG {p:Int}{x:Rt}{st:List D}{a:Int}{g:G}{o0 o1 o2 o4 o5:Option D}(hp:p<=100)(hx:oT p st a x)(hs:St p st):wX [o0,o1,o2,some (.tup st),o4,o5,some (rt x)] g=some (.nx,[o0,o1,o2,some (.tup (dB st x.1.dd)),o4,o5,some (rt x)],g):=by
 have hl2:=hs.1
 have ht:=hx.t
 rcases hx.g.r.dd with hd | ⟨c,v,hd,c0,c1,hv⟩
 . rw [hd] at ht
   simp [bN] at ht
   simp [wX,rt,ip,ht,isLit,cP,hd,dB]
 . rw [hd] at ht
   simp [bN,sZ] at ht
   obtain⟨cn,rfl⟩:∃cn:Nat,c=cn:=⟨c.toNat,by omega⟩
   have hcl:cn<st.length:=by omega
   have s1:dA (.tup st) none (some (cn:Int)) g=some (.tup (st.take cn),g):=fA (ky hcl)
   have s2:dA (.tup st) (some ((cn:Int)+1)) none g=some (.tup (st.drop (cn+1)),g):=fA (lA hcl)
   have y1:aD (min cn st.length+1)=true:=a_ (by omega)
   have y2:aD (min cn st.length+1+(st.length-(cn+1)))=true:=a_ (by omega)
   simp [wX,rt,ip,ht,isLit,cP,hd,eV,sg,dB,s1,s2,y1,y2]
def Jv (n:Nat)(p B:Int)(g:G)(i:Nat)(σ:Sg)(gg:G):Prop:=∃(xs:List Rt) (st:List D) (a:Int) (o5 o6:Option D),σ = [some (.ref n),some (.int p),some (.ref g.length),some (.tup st),some (.int a),o5,o6]/\Mk g gg n (B+5+15*i) (xs.map rt)/\Run p xs st a/\xs.length=i
set_option maxHeartbeats 1000000 in
theorem yN {take pick row:Fn}(ht:eO take)(hp:eQ pick){p:Int}(hr:oG p row){n:Nat}{g:G}{B:Int}{Q:D×G->Prop}(hB:B+1000<2 ^ 40)(p0:0<p)(hp2:p<=100)(hd:Hd g n B)(hc:Clean g)
   (q:∀xs st a g',Run p xs st a->xs.length<=14->Hd g' n (B+300)->Fr n g g'->Q (.lst (xs.map rt),g')) :
   wp (az false 7 2 (jB take pick row) [.ref n,.int p] g) Q:=by
 refine lM rfl ?_
 show wp (jB take pick row [some (.ref n),some (.int p),none,none,none,none,none] g) _
 unfold jB
 obtain⟨pn,rfl⟩:∃pn:Nat,p=pn:=⟨p.toNat,by omega⟩
 have m0:Mk g (g ++ [[]]) n B []:=Mk.init hd
 have mz:∀g,bS (.tup [.int 0]) (.int (pn:Int)) g=some (.tup (zs (pn:Int)),g):=fun g=>by
   rw [BN (by omega) (by omega) (by simp)]
   simp [zs]
 simp [mz]
 refine ht.w (by omega) (by decide) (by decide) m0.hd fun a g1 a0 a1 h1 f1=>?_
 have m1:=m0.step h1 f1
 simp
 refine qV ?_
 simp
 refine ht.w (by omega) (by decide) (by decide) m1.hd fun c g2 c0 c1 h2 f2=>?_
 have m2:=m1.step h2 f2
 simp
 refine⟨by omega,by omega,?_⟩
 have R0:Run (pn:Int) [] (zs (pn:Int)) a:=⟨by simp,rfl,St.zs (by omega),a0,by simp,.nil,fun i hi=>by simp at hi⟩
 refine lu (Jv n pn B g) _ 0 _ _ ⟨[],zs pn,a,none,none,rfl,m2.mono (by omega),R0,rfl⟩ ?_ ?_
 . intro j d σ gg hj hI
   obtain⟨hj,rfl⟩:=nZ hj
   obtain⟨xs,st,a,o5,o6,rfl,m,R,hl⟩:=hI
   rw [Nat.zero_add] at m hl ⊢
   have hxn:∀k,aP k (xs.map rt)=true:=fun k=>lD R.g k
   simp only [xR,eX]
   simp
   unfold Fy E_
   simp
   refine hr (by omega) R.sv R.a0 m.hd (Mk.cl m hc hxn) fun x g3 hx h3 f3=>?_
   have m3:=m.step h3 f3
   have e1:=AG (g:=g3) (o0:=some (.ref n)) (o1:=some (.int (pn:Int))) (o2:=some (.ref g.length)) (o4:=some (.int a)) (o5:=some (.int (j:Int))) hp2 hx R.sv
   obtain⟨e,he,e3,e4⟩:=hx.e
   simp [e1]
   unfold Fv
   have e5:eD x.1.e = .int e:=by rw [he];rfl
   simp [rt,wo,e5]
   refine hp.w (by omega) (by simp) (by simp) m3.hd fun b g4 hb h4 f4=>?_
   have m4:=m3.step h4 f4
   obtain⟨b,rfl,b0,b4⟩:∃i:Int,b = .int i/\0<=i/\i<=4:=by
     simp only [List.mem_cons,List.mem_nil_iff,or_false] at hb
     rcases hb with rfl | rfl | rfl | rfl<;>exact⟨_,rfl,by decide,by decide⟩
   have a4:=m4.at_
   have hz:aD ((xs.map rt).length+1)=true:=a_ (by simp;omega)
   have m5:=m4.put (ys:=xs.map rt ++ [rt x])
   simp at hz
   simp [E2,a4,hz]
   refine⟨xs ++ [x],dB st x.1.dd,e+b,_,_,rfl,?_,R.step hx (fun e' h=>by rw [he] at h;cases h;omega),by simp;omega⟩
   rw [List.map_append]
   have e6:rt x = .tup [.int x.1.h,x.1.dd,.int x.1.b,.int e,x.2]:=by rw [<- e5];rfl
   rw [e6] at m5
   simpa [e6] using m5.mono (by omega)
 . intro σ gg hI
   obtain⟨xs,st,a,o5,o6,rfl,m,R,hl⟩:=hI
   rw [lS,Nat.zero_add] at *
   obtain⟨h1,h2⟩:=m.fin
   have hml:=m.len
   simp
   refine⟨xs.map rt,m.at_,lD R.g _,?_,?_⟩
   . exact fun x hx=>List.all_eq_true.mp ((hc.fr h2 h1).all g.length) x hx
   . exact q xs st a _ R (by omega) (h1.mono (by omega)) h2
def C8:FE:=bA bB (eK (af 2)) [none,none,none] (gT 2 (ax (gN 1) (ax (gN 2) aY))) (aH (ao cU (ao aw (af 2) (fC (.int 4))) (fC .non))) (af 1)
def Fb (take:Fn):FS:=bH (gZ (aH (ao oEq (af 3) (aN cZ aj))) (aH (ao oEq (aq take (aa (af 0) (aa (fC (.int 2)) aj))) (fC (.int 0))))) (aB (aN aG (aa (af 2) (aa (fC (.bl false)) aj)))) aL
def Fc (take pick:Fn):FS:=fJ 4 5 (aa (aq pick (aa (af 0) (aa (af 3) aj))) (aa (aq take (aa (af 0) (aa (af 1) aj))) aj))
def EX (val:Fn):FS:=fJ 6 7 (aa (ao aw (ao aw (af 2) (af 4)) (fC (.int 4))) (aa (aq val (aa (af 0) aj)) aj))
def Fg:FS:=aF (ao aM (ao aM (cz (af 6) cA (bQ (af 5))) (aN aG (aa (af 7) aj))) (cz (af 6) (bQ (ao aM (af 5) (fC (.int 1)))) cA)) (gN 8)
def Ab:FS:=aB (aN aG (aa (ao aM (ao aM (cz (af 2) cA (bQ (af 4))) (aN cZ (aa (ao aM (cz (ao aw (af 2) (af 4)) cA (bQ (fC (.int 4)))) (aN aG (aa (af 8) aj))) aj))) (cz (af 2) (bQ (ao aM (af 4) (fC (.int 1)))) cA)) (aa (ao cX (af 8) (af 6)) aj)))
def jC (take pick val:Fn):FS:=av (aF C8 (gN 3)) (av (Fb take) (av (Fc take pick) (av (EX val) (av Fg Ab))))
def kE (xs:List Rt):List Nat:=(xs.zipIdx.filter fun y=>!dU y.1.2).map (·.2)
theorem CG {p:Int}{xs:List Rt}{g:G}{o0 o1 o3 o4 o5 o6 o7 o8:Option D}(hx:∀x∈xs,bJ p x)(hl:xs.length<=100):C8 [o0,o1,some (.lst (xs.map rt)),o3,o4,o5,o6,o7,o8] g=some (.lst (kD (kE xs)),g):=by
 have hz:aD (b6 (xs.map rt)).length=true:=a_ (by simp [b6];omega)
 have c1:=eB (f:=fun y:Rt×Nat=>.tup [.int (y.2:Nat),rt y.1]) (t:=gT 2 (ax (gN 1) (ax (gN 2) aY))) (c:=aH (ao cU (ao aw (af 2) (fC (.int 4))) (fC .non))) (e:=af 1) (cB:=fun y=>!dU y.1.2) (h:=fun y=>D.int (y.2:Nat)) (fun σ=>∃a b,σ = [none,a,b]) xs.zipIdx [none,none,none] g ⟨_,_,rfl⟩ (by
  rintro⟨y,i⟩ hm σ ⟨a,b,rfl⟩
  refine⟨[none,some (.int i),some (rt y)],by simp,?_,fun _=>by simp,⟨_,_,rfl⟩⟩
  have hy:y∈xs:=List.fst_mem_of_mem_zipIdx hm
  rcases bJ.pY (hx y hy) with e | ⟨st,e,_⟩
  . simp [rt,ip,e,isLit,cP,dU]
  . simp [rt,ip,e,isLit,cP,dU])
 rw [<- lE] at c1
 have sb:∀σ:Sg,bu [none,none,none] σ = [none,none,none]:=fun _=>rfl
 have e2:(xs.zipIdx.filter fun y=>!dU y.1.2).map (fun y=>D.int (y.2:Nat))=kD (kE xs):=by simp [kD,kE,Function.comp_def]
 rw [e2] at c1
 unfold C8
 generalize kD (kE xs)=kk at *
 simp [sb,c1,hz]
theorem D4 {xs:List Rt}{k:Nat}(h:k∈kE xs):k<xs.length/\dU (ay xs k).2=false:=by
 obtain⟨⟨x,i⟩,hm,rfl⟩:=List.mem_map.mp h
 obtain⟨h1,h2⟩:=List.mem_filter.mp hm
 obtain⟨h3,h4⟩:=List.mem_zipIdx' h1
 dsimp only at *
 refine⟨h3,?_⟩
 have:x=ay xs i:=by rw [h4];simp [ay,h3]
 rw [<- this]
 simpa using h2
theorem eq_nil {xs:List D}{g:G}(h:∀d∈xs,∃j:Int,d = .int j):oEq (.lst xs) (.lst []) g=some (.bl xs.isEmpty,g):=by
 obtain⟨h1,h2⟩:=kH h
 have e:aA (.lst xs) (.lst [])=xs.isEmpty:=by cases xs<;>simp [aA,cv]
 unfold oEq
 simp [L3.flat,dep,h1,h2,e,aX]
theorem D1 {xs:List D}{a:Nat}{g:G}(h:a<xs.length):dA (.lst xs) none (some (a:Int)) g=some (.lst (xs.take a),g):=by
 show hU (.lst xs) none (some (a:Int)) g=_
 simp only [hU]
 unfold cutD
 rw [nI (Nat.le_of_lt h),HT.gj]
 simp
theorem zB {xs:List D}{a:Nat}{g:G}(h:a<xs.length):dA (.lst xs) (some ((a:Int)+1)) none g=some (.lst (xs.drop (a+1)),g):=by
 have e:(a:Int)+1=((a+1:Nat):Int):=by simp
 rw [e]
 show hU (.lst xs) (some ((a+1:Nat):Int)) none g=_
 simp only [hU]
 unfold cutD
 rw [j4 h,HT.gj,List.take_of_length_le (by simp)]
theorem BM {a b:List D}{g:G}(h:a.length+b.length<=1000):aM (.lst a) (.lst b) g=some (.lst (a++b),g):=by
 have hz:aD (a.length+b.length)=true:=a_ (by omega)
 show(if aD (a.length+b.length)=true then some (D.lst (a++b),g) else none)=_
 rw [if_pos hz]
theorem Dw {p:Int}{st su:List D}(h1:St p st)(h2:St p su):aA (.tup st) (.tup su)=true ↔ st=su:=by
 rw [iU]
 exact jD (P:=fun d=>isVal 3 d=true) (fun d e=>lO 3 d e) st su h1.2 h2.2
theorem BA {p:Int}{xs:List Rt}{k:Nat}{st su:List D}{g:G}{o0 o1 o3 o5 o7:Option D}(hk:k<xs.length)(hl:xs.length<=100)(h1:St p st)(h2:St p su) :
  Ab [o0,o1,some (.lst (xs.map rt)),o3,some (.int (k:Nat)),o5,some (.tup st),o7,some (.tup su)] g=some (.rt (.tup [.lst ((xs.set k ((ay xs k).1,.tup su)).map rt),.bl (!aA (.tup su) (.tup st))]),[o0,o1,some (.lst (xs.map rt)),o3,some (.int (k:Nat)),o5,some (.tup st),o7,some (.tup su)],g):=by
 have gk:=eC (pI hk)
 have hk':k<(xs.map rt).length:=by rw [List.length_map];exact hk
 have s1:=D1 (g:=g) hk'
 have s2:=zB (g:=g) hk'
 have s3:dA (rt (ay xs k)) none (some 4) g=some (.tup [.int (ay xs k).1.h,(ay xs k).1.dd,.int (ay xs k).1.b,eD (ay xs k).1.e],g):=fA (ky (a:=4) (by simp))
 have a1:aM (.tup [.int (ay xs k).1.h,(ay xs k).1.dd,.int (ay xs k).1.b,eD (ay xs k).1.e]) (.tup [.tup su]) g=some (rt ((ay xs k).1,.tup su),g):=rfl
 have a2:aM (.lst ((xs.map rt).take k)) (.lst [rt ((ay xs k).1,.tup su)]) g=_:=BM (by simp;omega)
 have a3:aM (.lst ((xs.map rt).take k ++ [rt ((ay xs k).1,.tup su)])) (.lst ((xs.map rt).drop (k+1))) g=_:=BM (by simp;omega)
 obtain⟨f1,d1⟩:=St.flat h1
 obtain⟨f2,d2⟩:=St.flat h2
 have ne:cX (.tup su) (.tup st) g=some (.bl (!aA (.tup su) (.tup st)),g):=by
  unfold cX
  rw [if_pos]
  simp [f1,f2]
  omega
 have e1:(xs.map rt).take k ++ [rt ((ay xs k).1,.tup su)]++(xs.map rt).drop (k+1)=(xs.set k ((ay xs k).1,.tup su)).map rt:=by
  rw [List.map_set,List.set_eq_take_append_cons_drop,if_pos hk']
  simp
 have ix:aw (.lst (xs.map rt)) (.int (k:Nat)) g=some (rt (ay xs k),g):=by simp [md,cf,gk]
 rw [e1] at a3
 generalize (xs.set k ((ay xs k).1,.tup su)).map rt=Z at *
 generalize rt ((ay xs k).1,.tup su)=RS at *
 generalize [D.int (ay xs k).1.h,(ay xs k).1.dd,.int (ay xs k).1.b,eD (ay xs k).1.e]=R4 at *
 generalize rt (ay xs k)=R at *
 generalize (xs.map rt).take k=A1 at *
 generalize (xs.map rt).drop (k+1)=A2 at *
 generalize xs.map rt=L at *
 have d3:dep (D.tup su)<=60:=by omega
 unfold Ab
 simp [s1,s2,s3,gk,a1,a2,a3,f1,f2,d3]
def wc (p:Int)(xs ys:List Rt)(w:Bool):Prop:=(w=false/\ys=xs)\/(w=true /\ ∃k st,k<xs.length/\(bN (ay xs k).1.dd&&(ay xs k).1.e.isSome)=true/\ys=xs.set k ((ay xs k).1,.tup st)/\St p st/\aA (.tup st) (ay xs k).2=false)
set_option maxHeartbeats 1000000 in
theorem zg {take pick val:Fn}(ht:eO take)(hp:eQ pick)(hv:gn val){n:Nat}{g:G}{B p:Int}{xs:List Rt}{Q:D×G->Prop}(hB:B+100<2 ^ 40)(p0:0<p)(hp2:p<=100)(hx:∀x∈xs,bJ p x)(hl:xs.length<=100)(hd:Hd g n B)(hc:Clean g)
  (q:∀ys w g',wc p xs ys w->Hd g' n (B+10)->Fr n g g'->Q (.tup [.lst (ys.map rt),.bl w],g')) :
  wp (az false 9 3 (jC take pick val) [.ref n,.int p,.lst (xs.map rt)] g) Q:=by
 refine fW rfl ?_
 have fin:∀(ys:List Rt) (w:Bool) (g1:G) (B1:Int),B1<=B+10->wc p xs ys w->(∀y∈ys,bJ p y)->Hd g1 n B1->Fr n g g1->L3.bp g.length (.tup [.lst (ys.map rt),.bl w])=true/\(∀x,x∈List.take g.length g1->aP g.length x=true)/\g.length<=g1.length/\Q (.tup [.lst (ys.map rt),.bl w],g1.take g.length):=fun ys w g1 B1 hb hbn hy h1 f1=>by
  have cl:=(hc.fr f1 h1).all g.length
  have tk:g1.take g.length=g1:=List.take_of_length_le (by rw [f1.1];exact Nat.le_refl _)
  have nr:=lD hy g.length
  refine⟨by simp [L3.bp,aP,nr],fun x hx=>List.all_eq_true.mp cl x (List.mem_of_mem_take hx),by rw [f1.1];exact Nat.le_refl _,?_⟩
  rw [tk]
  exact q ys w g1 hbn (h1.mono hb) f1
 show wp (jC take pick val [some (.ref n),some (.int p),some (.lst (xs.map rt)),none,none,none,none,none,none] g) _
 have e1:=CG (g:=g) (o0:=some (.ref n)) (o1:=some (.int p)) (o3:=none) (o4:=none) (o5:=none) (o6:=none) (o7:=none) (o8:=none) hx hl
 have hli:∀d∈kD (kE xs),∃j:Int,d = .int j:=fun d hd=>by obtain⟨k,_,rfl⟩:=List.mem_map.mp hd;exact⟨_,rfl⟩
 have en:=eq_nil (g:=g) hli
 have hlen:(kE xs).length<=100:=by
  have:=List.length_filter_le (fun y:Rt×Nat=>!dU y.1.2) xs.zipIdx
  simp [kE] at this ⊢
  omega
 unfold jC Fb
 simp [e1]
 cases hk:kE xs with
 | nil =>
  rw [hk] at en
  have ee:(kD []).isEmpty=true:=rfl
  rw [ee] at en
  simp [en]
  have:=fin xs false g B (by omega) (.inl ⟨rfl,rfl⟩) hx hd Fr.refl
  rw [List.take_length] at this
  exact⟨this.1,this.2.1,this.2.2.2⟩
 | cons k0 kr =>
  rw [hk] at en hlen
  have ee:(kD (k0::kr)).isEmpty=false:=rfl
  rw [ee] at en
  simp [en]
  refine ht.w (by omega) (by decide) (by decide) hd fun r g1 r0 r1 h1 f1=>?_
  by_cases hr:r=0
  . simp [hr]
    exact fin xs false g1 _ (by omega) (.inl ⟨rfl,rfl⟩) hx h1 f1
  . simp [hr,Fc]
    refine hp.w (by omega) (by simp [kD]) (by simp [kD] at hlen ⊢;omega) h1 fun d g2 hd2 h2 f2=>?_
    obtain⟨k,hkm,rfl⟩:=List.mem_map.mp hd2
    rw [<- hk] at hkm
    obtain⟨k1,k2⟩:=D4 hkm
    have hyk:=hx _ (cF k1)
    simp
    refine ht.w (by omega) p0 (by omega) h2 fun c g3 c0 c1 h3 f3=>?_
    rcases bJ.pY hyk with e | ⟨st,e,hst,hlk⟩
    . rw [e] at k2;cases k2
    have gk:=eC (pI k1)
    simp [EX,gk,rt,ip,e]
    refine hv.w (by omega) h3 fun v g4 v0 h4 f4=>?_
    have hl2:=hst.1
    obtain⟨cn,rfl⟩:∃cn:Nat,c=cn:=⟨c.toNat,by omega⟩
    have hcl:cn<st.length:=by omega
    have s1:∀g,dA (.tup st) none (some (cn:Int)) g=some (.tup (st.take cn),g):=fun g=>fA (ky hcl)
    have s2:∀g,dA (.tup st) (some ((cn:Int)+1)) none g=some (.tup (st.drop (cn+1)),g):=fun g=>fA (lA hcl)
    have y1:aD (min cn st.length+1)=true:=a_ (by omega)
    have y2:aD (min cn st.length+1+(st.length-(cn+1)))=true:=a_ (by omega)
    have hst':St p (st.take cn++v::st.drop (cn+1)):=⟨by simp;omega,fun x hx=>by
      rcases List.mem_append.mp hx with hx | hx
      . exact hst.2 x (List.mem_of_mem_take hx)
      . rcases List.mem_cons.mp hx with rfl | hx
        . exact pJ v0
        . exact hst.2 x (List.mem_of_mem_drop hx)⟩
    simp [Fg,s1,s2,y1,y2]
    have br:=BA (g:=g4) (o0:=some (.ref n)) (o1:=some (.int p)) (o3:=some (.lst (kD (k0::kr)))) (o5:=some (.int (cn:Int))) (o7:=some v) k1 hl hst hst'
    have ee2:kD (k0::kr) = .int (k0:Nat)::kD kr:=rfl
    have f5:=((f1.trans f2).trans f3).trans f4
    refine⟨_,br,?_⟩
    refine fin _ _ g4 _ (by omega) ?_ (fun y hy=>?_) h4 f5
    . cases hq:aA (.tup (st.take cn++v::st.drop (cn+1))) (.tup st) with
      | true =>
        have:=(Dw hst' hst).mp hq
        refine .inl ⟨rfl,?_⟩
        rw [this,<- e]
        exact List.ext_getElem (by simp) fun i h1 h2=>by
          by_cases hi:k=i
          . subst hi;simp [ay,k1]
          . rw [List.getElem_set_ne hi]
      | false =>
        exact .inr ⟨rfl,k,_,k1,hlk,rfl,hst',by rw [e];exact hq⟩
    . rcases List.mem_or_eq_of_mem_set hy with h | rfl
      . exact hx y h
      . exact⟨hyk.r,by rw [if_pos hlk];exact St.B hst'⟩
structure Lw (p:Int)(ys:List Rt)(w:Bool):Prop where
 g:∀y∈ys,bJ p y
 en:∀y∈ys,∃e,y.1.e=some e/\y.1.b<e
 pw:ys.Pairwise fun x y=>∃e,x.1.e=some e/\e<=y.1.b
 ok:w=false->∀i,i<ys.length->fZ (ay ys i) (dM ys p i)=true
 no:w=true->∃i,i<ys.length/\bN (ay ys i).1.dd=true/\fZ (ay ys i) (dM ys p i)=false
theorem yB {xs ys:List Rt}{p:Int}(h:ys.map (·.1)=xs.map (·.1))(i:Nat):dM ys p i=dM xs p i:=by
 have e:∀(zs:List Rt) (s:List D),zs.foldl (fun s y=>dB s y.1.dd) s=(zs.map (·.1)).foldl (fun s r=>dB s r.dd) s:=fun zs s=>by rw [List.foldl_map]
 unfold dM
 rw [e,e,List.map_take,List.map_take,h]
theorem EJ {p:Int}{xs ys:List Rt}{st:List D}{a:Int}{w:Bool}(R:Run p xs st a)(hb:wc p xs ys w):Lw p ys w/\ys.length=xs.length:=by
 have okx:∀i,i<xs.length->fZ (ay xs i) (dM xs p i)=true:=fun i hi=>by
   have ht:=R.tl i hi
   have hg:=R.g _ (cF hi)
   unfold fZ
   cases hl:bN (ay xs i).1.dd with
   | false=>rfl
   | true =>
     rw [hl,if_pos rfl] at ht
     have fl:=(bJ.rh hg).1
     rw [ht] at fl ⊢
     simp [eh _ fl]
 rcases hb with⟨rfl,rfl⟩ | ⟨rfl,k,su,hk,hlk,rfl,hsu,hne⟩
 . exact⟨⟨R.g,fun y hy=>let⟨e,h1,_,h3⟩:=R.en y hy;⟨e,h1,h3⟩,R.pw,fun _=>okx,fun h=>by cases h⟩,rfl⟩
 . have em:(xs.set k ((ay xs k).1,D.tup su)).map (·.1)=xs.map (·.1):=by
     rw [List.map_set]
     refine List.ext_getElem (by simp) fun i h1 h2=>?_
     by_cases hi:k=i
     . subst hi;simp [ay,hk]
     . rw [List.getElem_set_ne hi]
   have mem:∀y∈xs.set k ((ay xs k).1,D.tup su),∃x∈xs,y.1=x.1:=fun y hy=>by
     have:y.1∈(xs.set k ((ay xs k).1,D.tup su)).map (·.1):=List.mem_map.mpr ⟨y,hy,rfl⟩
     rw [em] at this
     obtain⟨x,hx,e⟩:=List.mem_map.mp this
     exact⟨x,hx,e.symm⟩
   have hgk:=R.g _ (cF hk)
   have pw:∀zs:List Rt,(zs.Pairwise fun x y=>∃e,x.1.e=some e/\e<=y.1.b) ↔ (zs.map (·.1)).Pairwise fun r s=>∃e,r.e=some e/\e<=s.b:=fun zs=>by rw [List.pairwise_map]
   refine⟨⟨fun y hy=>?_,fun y hy=>?_,?_,(fun h=>by cases h),fun _=>⟨k,by simpa using hk,?_,?_⟩⟩,by simp⟩
   . rcases List.mem_or_eq_of_mem_set hy with h | rfl
     . exact R.g y h
     . exact⟨hgk.r,by rw [if_pos hlk];exact St.B hsu⟩
   . obtain⟨x,hx,e⟩:=mem y hy
     obtain⟨e',h1,_,h3⟩:=R.en x hx
     rw [e]
     exact⟨e',h1,h3⟩
   . rw [pw,em,<- pw];exact R.pw
   . have:ay (xs.set k ((ay xs k).1,D.tup su)) k=((ay xs k).1,D.tup su):=by simp [ay,hk]
     rw [this]
     simp only [Bool.and_eq_true] at hlk
     exact hlk.1
   . have:ay (xs.set k ((ay xs k).1,D.tup su)) k=((ay xs k).1,D.tup su):=by simp [ay,hk]
     rw [this,yB em]
     simp only [Bool.and_eq_true] at hlk
     have ht:=R.tl k hk
     rw [hlk.1,if_pos rfl] at ht
     rw [ht] at hne
     simp [fZ,hlk.1,hne]
theorem Lw.chain {p ys w}(h:Lw p ys w):Chain ys:=oh (fun x hx e he=>by obtain⟨e',h1,h2⟩:=h.en x hx;rw [he] at h1;cases h1;exact h2) h.pw
theorem Lw.ends {p ys w}(h:Lw p ys w):∀i,i<ys.length->((ay ys i).1.e.isSome=true ↔ i<ys.length):=fun i hi=>by
 obtain⟨e,h1,_⟩:=h.en _ (cF hi)
 simp [h1,hi]
theorem Lw.ord {p ys w d}(h:Lw p ys w)(hd:oD ys p d):(w=false/\d = .tup [.str "order",.tup (kD (List.range ys.length))])\/(w=true /\ ∃es,d = .tup [.str "none",.tup ((keys es).map (bx ys))]/\cG ys p es/\de ys p es):=by
 rcases mv h.chain hd (Nat.le_refl _) h.ends with⟨h1,k,k1,k2,e⟩ | ⟨⟨i,i1,i2⟩,es,e⟩
 . left
   have:k=ys.length:=by omega
   subst this
   refine⟨?_,e⟩
   cases w with
   | false=>rfl
   | true =>
    obtain⟨i,i1,_,i3⟩:=h.no rfl
    rw [h1 i i1] at i3
    cases i3
 . right
   refine⟨?_,es,e⟩
   cases w with
   | true=>rfl
   | false=>rw [h.ok rfl i i1] at i2;cases i2
def cJ (x:Rt):Rt:=(⟨x.1.pt,x.1.k,x.1.h,x.1.dd,x.1.b,none⟩,.non)
theorem Lw.cJ {p:Int}{zs:List Rt}{x:Rt}{w:Bool}{d:D}(h:Lw p (zs ++ [x]) w)(hx:x.2 = .non):(∀y∈zs ++ [Sd.cJ x],bJ p y)/\Chain (zs ++ [Sd.cJ x])/\(oD (zs ++ [Sd.cJ x]) p d->∃t,d = .tup [.str (if w then "none" else "order"),t]):=by
 have hgx:=h.g x (by simp)
 obtain⟨ex,hex,_⟩:=h.en x (by simp)
 have nl:bN x.1.dd=false:=by
   cases hl:bN x.1.dd with
   | false=>rfl
   | true =>
     have ht:=hgx.t
     rw [hl,hex] at ht
     rw [hx] at ht
     simp [iL] at ht
 have hc:Chain (zs ++ [Sd.cJ x]):=oh (fun y hy e he=>by
   rcases List.mem_append.mp hy with hy | hy
   . obtain⟨e',h1,h2⟩:=h.en y (by simp [hy])
     rw [he] at h1;cases h1;exact h2
   . simp at hy;subst hy;cases he) (by
   have:=h.pw
   rw [List.pairwise_append] at this ⊢
   refine⟨this.1,by simp,fun y hy z hz=>?_⟩
   simp at hz
   subst hz
   exact this.2.2 y hy x (by simp))
 refine⟨fun y hy=>?_,hc,fun hd=>?_⟩
 . rcases List.mem_append.mp hy with hy | hy
   . exact h.g y (by simp [hy])
   . simp at hy
     subst hy
     exact⟨⟨hgx.r.h0,hgx.r.h9,hgx.r.dd,hgx.r.b0,(fun e he=>by cases he),hgx.r.pa,(fun e he=>by cases he)⟩,by simp [Sd.cJ]⟩
 . have he:∀i,i<(zs ++ [Sd.cJ x]).length->((ay (zs ++ [Sd.cJ x]) i).1.e.isSome=true ↔ i<zs.length):=fun i hi=>by
     by_cases hz:i<zs.length
     . rw [jz hz]
       obtain⟨e,h1,_⟩:=h.en (ay zs i) (by simp [cF hz])
       simp [h1,hz]
     . have:i=zs.length:=by simp at hi;omega
       subst this
       rw [iE]
       simp [Sd.cJ]
   rcases mv hc hd (m:=zs.length) (by simp) he with⟨h1,k,_,_,e⟩ | ⟨⟨i,i1,i2⟩,es,e,_⟩
   . cases w with
     | false=>exact⟨_,e⟩
     | true =>
       obtain⟨i,i1,i2,i3⟩:=h.no rfl
       have hz:i<zs.length:=by
        by_cases hz:i<zs.length
        . exact hz
        . have:i=zs.length:=by simp at i1;omega
          subst this
          rw [iE,nl] at i2
          cases i2
       have:=h1 i hz
       rw [jz hz,hW (by omega)] at this i3
       rw [this] at i3
       cases i3
   . cases w with
     | true=>exact⟨_,e⟩
     | false =>
       have:=h.ok rfl i (by simp;omega)
       rw [jz i1,hW (by omega)] at this i2
       rw [this] at i2
       cases i2
end Sd
namespace K53
open PySem PySem.Spec PyProof.Rows L2 L3 RI
def top (i:Nat):Stmt:=PySem.Challenge.pw_wholeglance_k53_whole_rows_one_behind_th.main.body.getD i (.Pass ⟨0,0,0,0⟩)
def A9:bf:=⟨"is_whole",["thing"],["thing"],top 1,false,[],false⟩
def By:bf:=⟨"is_within",["thing","least","most"],["thing","least","most"],top 2,false,[],false⟩
def B2:bf:=⟨"is_figured",["thing","most"],["thing","most"],top 3,false,[],false⟩
def CZ:bf:=⟨"is_tuple_of",["thing","least","most"],["thing","least","most"],top 4,false,[],false⟩
def Ad:bf:=⟨"is_same",["thing","value"],["thing","value"],top 5,false,[],false⟩
def Bn:bf:=⟨"zeros",["count"],["count"],top 7,false,[],false⟩
def BX:bf:=⟨"is_value",["thing"],["thing"],top 12,false,[],false⟩
def B5:bf:=⟨"is_value_within",["thing","deep"],["thing","deep"],top 13,false,[],false⟩
def zT:bf:=⟨"is_ahead",["row","other"],["row","other"],top 15,false,[],false⟩
def B6:bf:=⟨"bits_of",["numbers"],["numbers"],top 17,false,[],false⟩
def wW:bf:=⟨"ended_bits",["story"],["story"],top 18,false,[],false⟩
def xq:bf:=⟨"plan_of",["story"],["story","plan","number","row","ahead"],top 19,false,["plan"],false⟩
def xB:bf:=⟨"leads",["plan","done","state"],["plan","done","state","found","number","ahead","row","bit"],top 20,false,["found"],false⟩
def xo:bf:=⟨"fits",["row","state"],["row","state"],top 21,false,[],false⟩
def wJ:bf:=⟨"state_behind",["row","state"],["row","state","deed"],top 22,false,[],false⟩
def wK:bf:=⟨"way_to",["came","room"],["came","room","way"],top 24,false,["way"],false⟩
def xc:bf:=⟨"ordered",["places","story"],["places","story","plan","ended","first","came","still","room","number","behind"],top 26,false,["still","came","*came"],false⟩
def xG:bf:=⟨"rows_done",["done","rows"],["done","rows"],top 27,false,[],false⟩
def xM:bf:=⟨"are_rows",["story","thing"],["story","thing"],top 29,false,[],false⟩
def xV:bf:=⟨"shows_none",["places","story","thing"],["places","story","thing","values","known","pair"],top 30,false,["known","*known"],false⟩
def xH:bf:=⟨"lead_nowhere_else",["story","known"],["story","known","plan","ended","done","state"],top 31,false,["*known"],false⟩
def wO:bf:=⟨"is_room",["places","story","values","thing"],["places","story","values","thing"],top 32,false,[],false⟩
def xk:bf:=⟨"is_rising",["story","thing"],["story","thing"],top 33,false,[],false⟩
def wL:bf:=⟨"is_state_of",["places","values","thing"],["places","values","thing"],top 34,false,[],false⟩
def xt:bf:=⟨"_law_hand",["_law_script","_law_k"],["_law_script","_law_k","_law_cell"],top 36,true,[],false⟩
def xY:bf:=⟨"_law_take",["_law_hand_here","_law_many"],["_law_hand_here","_law_many","_law_digit","_law_turn","_law_mixed","_law_other"],top 37,false,["_law_hand_here"],false⟩
def xF:bf:=⟨"_law_pick",["_law_hand_here","_law_some"],["_law_hand_here","_law_some"],top 38,false,[],false⟩
def wA:bf:=⟨"_law_some_value",["_law_hand_here"],["_law_hand_here"],top 39,false,[],false⟩
def xJ:bf:=⟨"_law_row",["_law_hand_here","_law_places","_law_state","_law_at"],["_law_hand_here","_law_places","_law_state","_law_at","_law_deed","_law_told"],top 40,false,[],false⟩
def xU:bf:=⟨"_law_rows",["_law_hand_here","_law_places"],["_law_hand_here","_law_places","_law_rows_here","_law_state","_law_at","_law_turn","_law_row_here"],top 41,false,["_law_rows_here"],false⟩
def wD:bf:=⟨"_law_bent",["_law_hand_here","_law_places","_law_rows_here"],["_law_hand_here","_law_places","_law_rows_here","_law_looks","_law_at","_law_place","_law_told","_law_value","_law_other"],top 42,false,[],false⟩
def wB:bf:=⟨"law",["_law_script"],["_law_script","_law_k","_law_hand_here","_law_places","_law_some","_law_wrong","_law_rows_here","_law_found","_law_ended"],top 43,false,[],false⟩
def ds:List bf:=[A9,By,B2,CZ,Ad,Bn,BX,B5,zT,B6,wW,xq,xB,xo,wJ,wK,xc,xG,xM,xV,xH,wO,xk,wL,xt,xY,xF,wA,xJ,xU,wD,wB]
def pk:Pk:=⟨[FQ,FN,Gq,F9,Ip,Gz,Gn,GN],[],[vA,Ey],[ya,CB,EI],[F3,Ep,Du,D_]⟩
def mo:Mo:=⟨ds,["len","max","min","int","tuple","all","any","sum","bool","range","enumerate","zip","isinstance","reversed"],[("TWELVE_FIGURES",.int 999999999999),("MOST_PARTS",.int 8),("MOST_DEEP",.int 3)],[],pk,1000000⟩
def Jz (T:Nat->Fn):FS:=aB (cT (eE .int (af 0)) (kA (eE .bool (af 0))))
def J9 (T:Nat->Fn):FS:=aB (cT (aq (T 0) (aa (af 0) aj)) (eM oLe oLe (af 1) (af 0) (af 2)))
def JU (T:Nat->Fn):FS:=aB (aq (T 1) (aa (af 0) (aa (hX fj (af 1)) (aa (af 1) aj))))
def JN (T:Nat->Fn):FS:=aB (cT (eE .tuple (af 0)) (eM oLe oLe (af 1) (aq bP (aa (af 0) aj)) (af 2)))
def Ka (T:Nat->Fn):FS:=av (bH (cy (bO (eE .tuple (af 1)))) (aB (cT (aq (T 0) (aa (af 0) aj)) (ao oEq (af 0) (af 1)))) aL) (av (bH (cy (bO (aq (T 3) (aa (af 0) (aa (aq bP (aa (af 1) aj)) (aa (aq bP (aa (af 1) aj)) aj)))))) (aB (fC (.bl false))) aL) (aB (aq dw (aa (bA bB (qX (af 0) (af 1)) [none,none,none] (gT 2 (ax (gN 1) (ax (gN 2) aY))) bq (aq (T 4) (aa (af 1) (aa (af 2) aj)))) aj))))
def Js (T:Nat->Fn):FS:=aB (ao bS (aN aG (aa (fC (.int 0)) aj)) (af 0))
def JJ (T:Nat->Fn):FS:=aB (aq (T 7) (aa (af 0) (aa (fC (.int 3)) aj)))
def J6 (T:Nat->Fn):FS:=av (bH (gZ (aH (ao oEq (af 1) (fC (.int 0)))) (cy (bO (eE .tuple (af 0))))) (aB (aq (T 2) (aa (af 0) (aa (fC (.int 999999999999)) aj)))) aL) (av (bH (cy (bO (aq (T 3) (aa (af 0) (aa (fC (.int 0)) (aa (fC (.int 8)) aj)))))) (aB (fC (.bl false))) aL) (aB (aq dw (aa (bA bB (bW (af 0)) [none,none,some 1] (gN 1) bq (aq (T 7) (aa (af 1) (aa (ao (aK aW (· - ·)) (af 2) (fC (.int 1))) aj)))) aj))))
def J0 (T:Nat->Fn):FS:=aB (cT (ao cU (ao aw (af 0) (fC (.int 3))) (fC .non)) (ao oLe (ao aw (af 0) (fC (.int 3))) (ao aw (af 1) (fC (.int 2)))))
def JV (T:Nat->Fn):FS:=aB (aq iz (aa (bA bB (bW (af 0)) [none,none] (gN 1) bq (ao (aK bY (fun i j=>i*2 ^ j.toNat)) (fC (.int 1)) (af 1))) aj))
def Hl (T:Nat->Fn):FS:=aB (aq (T 9) (aa (bA bB (eK (af 0)) [none,none,none] (gT 2 (ax (gN 1) (ax (gN 2) aY))) (aH (ao cU (ao aw (af 2) (fC (.int 3))) (fC .non))) (af 1)) aj))
def FX (T:Nat->Fn):FS:=av (aF (aN mkRef aj) (gN 1)) (av (ed (eK (af 0)) (gT 2 (ax (gN 2) (ax (gN 3) aY))) (av (aF (bA bB (eK (af 0)) [none,none,none,some 3] (gT 2 (ax (gN 1) (ax (gN 2) aY))) (bO (aq (T 8) (aa (af 2) (aa (af 3) aj)))) (af 1)) (gN 4)) (dG (dP isRef cx (af 1) (aa (aN aG (aa (af 2) (aa (aq (T 9) (aa (af 4) aj)) (aa (af 3) aj)))) aj))))) (aB (af 1)))
def GJ (T:Nat->Fn):FS:=av (aF (aN mkRef aj) (gN 3)) (av (ed (bW (af 0)) (gT 3 (ax (gN 4) (ax (gN 5) (ax (gN 6) aY)))) (av (aF (ao (aK bY (fun i j=>i*2 ^ j.toNat)) (fC (.int 1)) (af 4)) (gN 7)) (bH (eY (aH (ao oEq (ao (aK aW Builtin.bitAnd) (af 1) (af 7)) (fC (.int 0)))) (eY (aH (ao oEq (ao (aK aW Builtin.bitAnd) (af 1) (af 5)) (af 5))) (bO (aq (T 13) (aa (af 6) (aa (af 2) aj)))))) (dG (dP isRef cx (af 3) (aa (aN aG (aa (af 4) (aa (aN aG (aa (ao (aK aW Builtin.bitOr) (af 1) (af 7)) (aa (aq (T 14) (aa (af 6) (aa (af 2) aj))) aj))) aj))) aj))) aL))) (aB (af 3)))
def F6 (T:Nat->Fn):FS:=aB (i6 (ao oEq (ao aw (ao aw (af 0) (fC (.int 1))) (fC (.int 0))) (fC (.str "put"))) (ao oEq (ao aw (af 0) (fC (.int 4))) (af 1)))
def Ia (T:Nat->Fn):FS:=av (aF (ao aw (af 0) (fC (.int 1))) (gN 2)) (av (bH (aH (ao oEq (ao aw (af 2) (fC (.int 0))) (fC (.str "look")))) (aB (af 1)) aL) (aB (ao aM (ao aM (cz (af 1) cA (bQ (ao aw (af 2) (fC (.int 1))))) (aN aG (aa (ao aw (af 2) (fC (.int 2))) aj))) (cz (af 1) (bQ (ao aM (ao aw (af 2) (fC (.int 1))) (fC (.int 1)))) cA))))
def HC (T:Nat->Fn):FS:=av (aF (aN mkRef aj) (gN 2)) (av (i5 1000000 (aH (ao cU (ao aw (af 0) (af 1)) (fC .non))) (av (dG (dP isRef cx (af 2) (aa (ao aw (ao aw (af 0) (af 1)) (fC (.int 0))) aj))) (aF (ao aw (ao aw (af 0) (af 1)) (fC (.int 1))) (gN 1)))) (aB (lj (af 2))))
def Gw (T:Nat->Fn):FS:=av (aF (aq (T 11) (aa (af 1) aj)) (gN 2)) (av (aF (aq (T 10) (aa (af 1) aj)) (gN 3)) (av (aF (aN aG (aa (fC (.int 0)) (aa (aq (T 5) (aa (af 0) aj)) aj))) (gN 4)) (av (aF (gY [(af 4,fC .non)]) (gN 5)) (av (aF (aN mkRef (aa (af 4) aj)) (gN 6)) (av (i5 1000000 (aH (ao qf (aq bP (aa (af 6) aj)) (fC (.int 0)))) (av (aF (dP isRef lR (af 6) aj) (gN 7)) (av (bH (aH (ao oEq (ao (aK aW Builtin.bitAnd) (ao aw (af 7) (fC (.int 0))) (af 3)) (af 3))) (aB (aN aG (aa (fC (.str "order")) (aa (aq (T 15) (aa (af 5) (aa (af 7) aj))) aj)))) aL) (ed (bW (aq (T 12) (aa (af 2) (aa (ao aw (af 7) (fC (.int 0))) (aa (ao aw (af 7) (fC (.int 1))) aj))))) (gT 2 (ax (gN 8) (ax (gN 9) aY))) (bH (aH (ao hZ (af 9) (af 5))) (av (aF (aN aG (aa (af 8) (aa (af 7) aj))) (f7 (af 5) (af 9))) (dG (dP isRef cx (af 6) (aa (af 9) aj)))) aL))))) (aB (aN aG (aa (fC (.str "none")) (aa (aq eH (aa (gS bB (fG (af 5)) [none,none,none,some 1] (gT 2 (ax (gN 1) (ax (gN 2) aY))) bq (aN aG (aa (aq (T 17) (aa (af 1) (aa (aq bP (aa (af 3) aj)) aj))) (aa (af 2) aj)))) aj)) aj)))))))))
def Hq (T:Nat->Fn):FS:=aB (aq eH (aa (bA bB (iM (aa (af 1) aj)) [none,none,some 0] (gN 1) (aH (ao cX (ao (aK aW Builtin.bitAnd) (af 2) (ao (aK bY (fun i j=>i*2 ^ j.toNat)) (fC (.int 1)) (af 1))) (fC (.int 0)))) (af 1)) aj))
def Gg (T:Nat->Fn):FS:=aB (aq dw (aa (bA bB (bW (af 1)) [none,none,some 0] (gN 1) bq (aq (T 1) (aa (af 1) (aa (fC (.int 0)) (aa (ao (aK aW (· - ·)) (aq bP (aa (af 2) aj)) (fC (.int 1))) aj))))) aj))
def Iq (T:Nat->Fn):FS:=av (aF (bA bB (bW (af 1)) [none,none] (gN 1) (aH (ao oEq (ao aw (ao aw (af 1) (fC (.int 1))) (fC (.int 0))) (fC (.str "put")))) (ao aw (ao aw (af 1) (fC (.int 1))) (fC (.int 2)))) (gN 3)) (av (bH (gZ (cy (bO (eE .tuple (af 2)))) (cy (bO (aq dw (aa (bA bB (bW (af 2)) [none,none,some 0,some 1,some 3] (gN 1) bq (aq (T 21) (aa (af 2) (aa (af 3) (aa (af 4) (aa (af 1) aj)))))) aj))))) (aB (fC (.bl false))) aL) (av (aF ku (gN 4)) (av (ed (bW (af 2)) (gN 5) (aF (fC (.bl true)) (f7 (af 4) (aN aG (aa (aq (T 9) (aa (ao aw (af 5) (fC (.int 0))) aj)) (aa (ao aw (af 5) (fC (.int 1))) aj)))))) (aB (cT (ao ik (aN aG (aa (fC (.int 0)) (aa (aq (T 5) (aa (af 0) aj)) aj))) (af 4)) (aq (T 20) (aa (af 1) (aa (af 4) aj))))))))
def F_ (T:Nat->Fn):FS:=av (aF (aq (T 11) (aa (af 0) aj)) (gN 2)) (av (aF (aq (T 10) (aa (af 0) aj)) (gN 3)) (av (jH (fG (af 1)) (gT 2 (ax (gN 4) (ax (gN 5) aY))) (av (bH (aH (ao oEq (ao (aK aW Builtin.bitAnd) (af 4) (af 3)) (af 3))) (aB (fC (.bl false))) aL) (bH (cy (bO (aq dw (aa (bA bB (bW (aq (T 12) (aa (af 2) (aa (af 4) (aa (af 5) aj))))) [none,none,none,some 1] (gT 2 (ax (gN 1) (ax (gN 2) aY))) bq (ao ik (af 2) (af 3))) aj)))) (aB (fC (.bl false))) aL))) (aB (fC (.bl true)))))
def HW (T:Nat->Fn):FS:=av (bH (cy (bO (aq (T 3) (aa (af 3) (aa (fC (.int 2)) (aa (fC (.int 2)) aj)))))) (aB (fC (.bl false))) aL) (aB (cT (aq (T 22) (aa (af 1) (aa (ao aw (af 3) (fC (.int 0))) aj))) (aq (T 23) (aa (af 0) (aa (af 2) (aa (ao aw (af 3) (fC (.int 1))) aj))))))
def Iu (T:Nat->Fn):FS:=av (bH (gZ (cy (bO (aq (T 3) (aa (af 1) (aa (fC (.int 0)) (aa (aq bP (aa (af 0) aj)) aj)))))) (cy (bO (aq (T 18) (aa (af 0) (aa (af 1) aj)))))) (aB (fC (.bl false))) aL) (aB (aq dw (aa (bA bB (mC (aa (fC (.int 1)) (aa (aq bP (aa (af 1) aj)) aj))) [none,none,some 1] (gN 1) bq (ao oLt (ao aw (af 2) (ao (aK aW (· - ·)) (af 1) (fC (.int 1)))) (ao aw (af 2) (af 1)))) aj)))
def Gi (T:Nat->Fn):FS:=av (bH (cy (bO (aq (T 3) (aa (af 2) (aa (af 0) (aa (af 0) aj)))))) (aB (fC (.bl false))) aL) (aB (aq dw (aa (bA bB (bW (af 2)) [none,none,some 1] (gN 1) bq (i6 (aq (T 6) (aa (af 1) aj)) (aq jt (aa (bA bB (bW (af 2)) [none,none,some 1] (gN 1) bq (aq (T 4) (aa (af 2) (aa (af 1) aj)))) aj)))) aj)))
def GO (T:Nat->Fn):FS:=av (aF (fC (.int 0)) (gN 2)) (av (bH (aH (ao oLt (af 1) (aq bP (aa (af 0) aj)))) (aF (ao aw (af 0) (af 1)) (gN 2)) aL) (aB (aN mkRef (aa (ao bS (af 2) (aq jh (aa (ao tR (af 2) (ao (aK bY (fun i j=>i ^ j.toNat)) (fC (.int 10)) (fC (.int 18)))) aj))) (aa (ao aM (ao aM (ao (aK cb (· % ·)) (af 2) (fC (.int 2305843009213693951))) (ao bS (fC (.int 7919)) (af 1))) (fC (.int 3))) (aa (fC (.int 0)) aj))))))
def Ij (T:Nat->Fn):FS:=av (bH (aH (ao qf (ao aw (af 0) (fC (.int 0))) (fC (.int 0)))) (av (aF (ao (aK cb (· % ·)) (ao aw (af 0) (fC (.int 0))) (af 1)) (gN 2)) (av (aF (ao (aK dF (· / ·)) (ao aw (af 0) (fC (.int 0))) (af 1)) (f7 (af 0) (fC (.int 0)))) (aB (af 2)))) aL) (av (aF (ao aM (ao aw (af 0) (fC (.int 2))) (fC (.int 1))) (f7 (af 0) (fC (.int 2)))) (av (aF (ao aw (af 0) (fC (.int 2))) (gN 3)) (av (aF (ao (aK cb (· % ·)) (ao bS (ao aw (af 0) (fC (.int 1))) (ao aM (ao aM (fC (.int 48271)) (ao bS (ao bS (fC (.int 2)) (af 3)) (af 3))) (ao bS (fC (.int 65537)) (af 3)))) (fC (.int 2305843009213693921))) (gN 4)) (av (aF (ao aM (ao aM (ao (aK cb (· % ·)) (af 4) (fC (.int 1000003))) (ao bS (af 3) (fC (.int 99991)))) (fC (.int 11))) (gN 5)) (av (aF (ao (aK cb (· % ·)) (ao bS (af 4) (af 5)) (fC (.int 2305843009213693907))) (gN 4)) (aB (ao (aK cb (· % ·)) (ao aM (ao (aK dF (· / ·)) (af 4) (fC (.int 97))) (ao (aK dF (· / ·)) (af 4) (fC (.int 1000033)))) (af 1))))))))
def F7 (T:Nat->Fn):FS:=aB (ao aw (af 1) (aq (T 25) (aa (af 0) (aa (aq bP (aa (af 1) aj)) aj))))
def Ik (T:Nat->Fn):FS:=aB (aq (T 26) (aa (af 0) (aa (aN cZ (aa (fC (.int 1)) (aa (fC (.int 1)) (aa (fC (.int 2)) (aa (fC (.int 3)) (aa (fC (.int 0)) (aa (aN aG aj) (aa (aN aG (aa (fC (.int 1)) (aa (fC (.int 2)) aj))) (aa (hX fj (fC (.int 5))) aj))))))))) aj)))
def Ib (T:Nat->Fn):FS:=av (fJ 4 5 (aa (aN aG (aa (fC (.str "look")) aj)) (aa (af 2) aj))) (av (bH (aH (ao oLt (aq (T 25) (aa (af 0) (aa (fC (.int 5)) aj))) (fC (.int 3)))) (fJ 4 5 (aa (aN aG (aa (fC (.str "put")) (aa (aq (T 25) (aa (af 0) (aa (af 1) aj))) (aa (aq (T 27) (aa (af 0) aj)) aj)))) (aa (fC .non) aj))) aL) (aB (aN aG (aa (aq (T 25) (aa (af 0) (aa (fC (.int 10)) aj))) (aa (af 4) (aa (af 3) (aa (ao aM (ao aM (af 3) (fC (.int 1))) (aq (T 26) (aa (af 0) (aa (aN cZ (aa (fC (.int 0)) (aa (fC (.int 1)) (aa (fC (.int 7)) aj)))) aj)))) (aa (af 5) aj))))))))
def Gx (T:Nat->Fn):FS:=av (ke 2 3 4 (aa (aN mkRef aj) (aa (ao bS (aN aG (aa (fC (.int 0)) aj)) (af 1)) (aa (aq (T 25) (aa (af 0) (aa (fC (.int 3)) aj))) aj)))) (av (ed (iM (aa (aq (T 25) (aa (af 0) (aa (fC (.int 15)) aj))) aj)) (gN 5) (av (aF (aq (T 28) (aa (af 0) (aa (af 1) (aa (af 3) (aa (af 4) aj))))) (gN 6)) (av (bH (aH (ao me (ao aw (af 6) (fC (.int 4))) (fC .non))) (aF (ao aM (ao aM (cz (af 3) cA (bQ (ao aw (ao aw (af 6) (fC (.int 1))) (fC (.int 1))))) (aN aG (aa (ao aw (ao aw (af 6) (fC (.int 1))) (fC (.int 2))) aj))) (cz (af 3) (bQ (ao aM (ao aw (ao aw (af 6) (fC (.int 1))) (fC (.int 1))) (fC (.int 1)))) cA)) (gN 3)) aL) (av (aF (ao aM (ao aw (af 6) (fC (.int 3))) (aq (T 26) (aa (af 0) (aa (aN cZ (aa (fC (.int 0)) (aa (fC (.int 0)) (aa (fC (.int 1)) (aa (fC (.int 4)) aj))))) aj)))) (gN 4)) (dG (dP isRef cx (af 2) (aa (af 6) aj))))))) (aB (af 2)))
def Hs (T:Nat->Fn):FS:=av (aF (bA bB (eK (af 2)) [none,none,none] (gT 2 (ax (gN 1) (ax (gN 2) aY))) (aH (ao cU (ao aw (af 2) (fC (.int 4))) (fC .non))) (af 1)) (gN 3)) (av (bH (gZ (aH (ao oEq (af 3) (aN cZ aj))) (aH (ao oEq (aq (T 25) (aa (af 0) (aa (fC (.int 2)) aj))) (fC (.int 0))))) (aB (aN aG (aa (af 2) (aa (fC (.bl false)) aj)))) aL) (av (fJ 4 5 (aa (aq (T 26) (aa (af 0) (aa (af 3) aj))) (aa (aq (T 25) (aa (af 0) (aa (af 1) aj))) aj))) (av (fJ 6 7 (aa (ao aw (ao aw (af 2) (af 4)) (fC (.int 4))) (aa (aq (T 27) (aa (af 0) aj)) aj))) (av (aF (ao aM (ao aM (cz (af 6) cA (bQ (af 5))) (aN aG (aa (af 7) aj))) (cz (af 6) (bQ (ao aM (af 5) (fC (.int 1)))) cA)) (gN 8)) (aB (aN aG (aa (ao aM (ao aM (cz (af 2) cA (bQ (af 4))) (aN cZ (aa (ao aM (cz (ao aw (af 2) (af 4)) cA (bQ (fC (.int 4)))) (aN aG (aa (af 8) aj))) aj))) (cz (af 2) (bQ (ao aM (af 4) (fC (.int 1)))) cA)) (aa (ao cX (af 8) (af 6)) aj))))))))
def Bx (T:Nat->Fn):FS:=av (ed (iM (aa (aq lK (aa (fC (.int 1)) (aa (aq lC (aa (fC (.int 6)) (aa (aq bP (aa (af 0) aj)) aj))) aj))) aj)) (gN 1) (av (aF (aq (T 24) (aa (af 0) (aa (af 1) aj))) (gN 2)) (av (aF (ao aM (fC (.int 1)) (aq (T 25) (aa (af 2) (aa (fC (.int 5)) aj)))) (gN 3)) (av (aF (aq (T 30) (aa (af 2) (aa (af 3) (aa (aq (T 29) (aa (af 2) (aa (af 3) aj))) aj)))) (gT 2 (ax (gN 4) (ax (gN 5) aY)))) (av (aF (aq eH (aa (af 4) aj)) (gN 6)) (av (aF (aq (T 16) (aa (af 3) (aa (af 6) aj))) (gN 7)) (av (bH (gZ (aH (ao cX (af 5) (ao oEq (ao aw (af 7) (fC (.int 0))) (fC (.str "none"))))) (eY (cy (bO (af 5))) (aH (ao cX (af 7) (aN aG (aa (fC (.str "order")) (aa (jn (aa (aq bP (aa (af 6) aj)) aj)) aj))))))) (aB (fC (.bl false))) aL) (av (bH (eY (bO (af 5)) (aH (ao cU (aq (T 19) (aa (af 3) (aa (af 6) (aa (ao aw (af 7) (fC (.int 1))) aj)))) (fC (.bl true))))) (aB (fC (.bl false))) aL) (bH (eY (aH (ao cX (af 6) (aN aG aj))) (aH (ao me (ao aw (ao aw (af 6) (hX fj (fC (.int 1)))) (fC (.int 4))) (fC .non)))) (av (aF (ao aM (cz (af 6) cA (bQ (hX fj (fC (.int 1))))) (aN aG (aa (ao aM (cz (ao aw (af 6) (hX fj (fC (.int 1)))) cA (bQ (fC (.int 3)))) (aN aG (aa (fC .non) (aa (fC .non) aj)))) aj))) (gN 8)) (bH (aH (ao cX (ao aw (aq (T 16) (aa (af 3) (aa (af 8) aj))) (fC (.int 0))) (ao aw (af 7) (fC (.int 0))))) (aB (fC (.bl false))) aL)) aL))))))))) (aB (fC (.bl true)))
def tab:Nat->Nat->Fn
 | 0,_=>fun _ _=>none
 | k+1,0=>(az false 1 1 (Jz (tab k)))
 | k+1,1=>(az false 3 3 (J9 (tab k)))
 | k+1,2=>(az false 2 2 (JU (tab k)))
 | k+1,3=>(az false 3 3 (JN (tab k)))
 | k+1,4=>(az false 2 2 (Ka (tab k)))
 | k+1,5=>(az false 1 1 (Js (tab k)))
 | k+1,6=>(az false 1 1 (JJ (tab k)))
 | k+1,7=>(az false 2 2 (J6 (tab k)))
 | k+1,8=>(az false 2 2 (J0 (tab k)))
 | k+1,9=>(az false 1 1 (JV (tab k)))
 | k+1,10=>(az false 1 1 (Hl (tab k)))
 | k+1,11=>(az false 5 1 (FX (tab k)))
 | k+1,12=>(az false 8 3 (GJ (tab k)))
 | k+1,13=>(az false 2 2 (F6 (tab k)))
 | k+1,14=>(az false 3 2 (Ia (tab k)))
 | k+1,15=>(az false 3 2 (HC (tab k)))
 | k+1,16=>(az false 10 2 (Gw (tab k)))
 | k+1,17=>(az false 2 2 (Hq (tab k)))
 | k+1,18=>(az false 2 2 (Gg (tab k)))
 | k+1,19=>(az false 6 3 (Iq (tab k)))
 | k+1,20=>(az false 6 2 (F_ (tab k)))
 | k+1,21=>(az false 4 4 (HW (tab k)))
 | k+1,22=>(az false 2 2 (Iu (tab k)))
 | k+1,23=>(az false 3 3 (Gi (tab k)))
 | k+1,24=>(az true 3 2 (GO (tab k)))
 | k+1,25=>(az false 6 2 (Ij (tab k)))
 | k+1,26=>(az false 2 2 (F7 (tab k)))
 | k+1,27=>(az false 1 1 (Ik (tab k)))
 | k+1,28=>(az false 6 4 (Ib (tab k)))
 | k+1,29=>(az false 7 2 (Gx (tab k)))
 | k+1,30=>(az false 9 3 (Hs (tab k)))
 | k+1,31=>(az false 9 1 (Bx (tab k)))
 | _+1,_=>fun _ _=>none
theorem J5 (k:Nat):tab (k+1) 0=A9.run mo (tab k) k:=by kernel_rfl
theorem J4 (k:Nat):tab (k+1) 1=By.run mo (tab k) k:=by kernel_rfl
theorem J3 (k:Nat):tab (k+1) 2=B2.run mo (tab k) k:=by kernel_rfl
theorem Jr (k:Nat):tab (k+1) 3=CZ.run mo (tab k) k:=by kernel_rfl
theorem JA (k:Nat):tab (k+1) 4=Ad.run mo (tab k) k:=by kernel_rfl
theorem JP (k:Nat):tab (k+1) 5=Bn.run mo (tab k) k:=by kernel_rfl
theorem JW (k:Nat):tab (k+1) 6=BX.run mo (tab k) k:=by kernel_rfl
theorem J8 (k:Nat):tab (k+1) 7=B5.run mo (tab k) k:=by kernel_rfl
theorem Kc (k:Nat):tab (k+1) 8=zT.run mo (tab k) k:=by kernel_rfl
theorem JD (k:Nat):tab (k+1) 9=B6.run mo (tab k) k:=by kernel_rfl
theorem F0 (k:Nat):tab (k+1) 10=wW.run mo (tab k) k:=by kernel_rfl
theorem FU (k:Nat):tab (k+1) 11=xq.run mo (tab k) k:=by kernel_rfl
theorem Il (k:Nat):tab (k+1) 12=xB.run mo (tab k) k:=by kernel_rfl
theorem GI (k:Nat):tab (k+1) 13=xo.run mo (tab k) k:=by kernel_rfl
theorem GW (k:Nat):tab (k+1) 14=wJ.run mo (tab k) k:=by kernel_rfl
theorem HU (k:Nat):tab (k+1) 15=wK.run mo (tab k) k:=by kernel_rfl
theorem HY (k:Nat):tab (k+1) 16=xc.run mo (tab k) k:=by kernel_rfl
theorem GP (k:Nat):tab (k+1) 17=xG.run mo (tab k) k:=by kernel_rfl
theorem Hy (k:Nat):tab (k+1) 18=xM.run mo (tab k) k:=by kernel_rfl
theorem FV (k:Nat):tab (k+1) 19=xV.run mo (tab k) k:=by kernel_rfl
theorem Io (k:Nat):tab (k+1) 20=xH.run mo (tab k) k:=by kernel_rfl
theorem Hr (k:Nat):tab (k+1) 21=wO.run mo (tab k) k:=by kernel_rfl
theorem HS (k:Nat):tab (k+1) 22=xk.run mo (tab k) k:=by kernel_rfl
theorem Gy (k:Nat):tab (k+1) 23=wL.run mo (tab k) k:=by kernel_rfl
theorem Im (k:Nat):tab (k+1) 24=xt.run mo (tab k) k:=by kernel_rfl
theorem HD (k:Nat):tab (k+1) 25=xY.run mo (tab k) k:=by kernel_rfl
theorem Gb (k:Nat):tab (k+1) 26=xF.run mo (tab k) k:=by kernel_rfl
theorem HR (k:Nat):tab (k+1) 27=wA.run mo (tab k) k:=by kernel_rfl
theorem HJ (k:Nat):tab (k+1) 28=xJ.run mo (tab k) k:=by kernel_rfl
theorem Ga (k:Nat):tab (k+1) 29=xU.run mo (tab k) k:=by kernel_rfl
theorem Gv (k:Nat):tab (k+1) 30=wD.run mo (tab k) k:=by kernel_rfl
theorem GY (k:Nat):tab (k+1) 31=wB.run mo (tab k) k:=by kernel_rfl
theorem good:Good mo tab:=⟨fun _ _ _=>rfl,fun k j d h=>by
 match j,h with
 | 0,h=>cases h;exact J5 k
 | 1,h=>cases h;exact J4 k
 | 2,h=>cases h;exact J3 k
 | 3,h=>cases h;exact Jr k
 | 4,h=>cases h;exact JA k
 | 5,h=>cases h;exact JP k
 | 6,h=>cases h;exact JW k
 | 7,h=>cases h;exact J8 k
 | 8,h=>cases h;exact Kc k
 | 9,h=>cases h;exact JD k
 | 10,h=>cases h;exact F0 k
 | 11,h=>cases h;exact FU k
 | 12,h=>cases h;exact Il k
 | 13,h=>cases h;exact GI k
 | 14,h=>cases h;exact GW k
 | 15,h=>cases h;exact HU k
 | 16,h=>cases h;exact HY k
 | 17,h=>cases h;exact GP k
 | 18,h=>cases h;exact Hy k
 | 19,h=>cases h;exact FV k
 | 20,h=>cases h;exact Io k
 | 21,h=>cases h;exact Hr k
 | 22,h=>cases h;exact HS k
 | 23,h=>cases h;exact Gy k
 | 24,h=>cases h;exact Im k
 | 25,h=>cases h;exact HD k
 | 26,h=>cases h;exact Gb k
 | 27,h=>cases h;exact HR k
 | 28,h=>cases h;exact HJ k
 | 29,h=>cases h;exact Ga k
 | 30,h=>cases h;exact Gv k
 | 31,h=>cases h;exact GY k
 | j+32,h=>exact absurd h (by simp [mo,ds]),fun d hd=>tw (show pO ds=true by decide +kernel) d hd⟩
end K53
namespace K53
open PySem L3 L2 Pd Od Sd RI
theorem Jt (k:Nat):lY (tab (k+1) 0):=uW
theorem BO (k:Nat):iB (tab (k+2) 1):=uH (Jt k)
theorem Fu (k:Nat):fy (tab (k+3) 2):=qD (BO k)
theorem qz (k:Nat):dq (tab (k+1) 3):=qU
theorem CF (k:Nat):∀n,oq (tab (k+4+n) 7) n
 | 0=>Co (Fu k)
 | n+1=>BQ (show fy (tab (k+4+n) 2) by rw [show k+4+n=(k+1+n)+3 by omega];exact Fu _) (show dq (tab (k+4+n) 3) by rw [show k+4+n=(k+3+n)+1 by omega];exact qz _) (CF k n)
theorem Jy (k:Nat):qT (tab (k+8) 6):=Al (CF k 3)
theorem EW (k:Nat){p:Int}(h0:0<=p)(h1:p<=100):jG p (tab (k+1) 5):=uZ h0 h1
theorem FL (k:Nat)(p:Int):hJ p (tab (k+1) 8):=v5
theorem CL (k:Nat):jb (tab (k+1) 9):=zr
theorem Ic (k:Nat):jJ (tab (k+1) 9):=uY
theorem A8 (k:Nat):mY (tab (k+2) 10):=C7 (CL k)
theorem zW (k:Nat)(p:Int):j9 p (tab (k+2) 11):=y3 (FL k p) (CL k)
theorem HP (k:Nat)(p:Int):iX p (tab (k+1) 13):=zE
theorem Hm (k:Nat){p:Int}(h1:p<=100):iA p (tab (k+1) 14):=td h1
theorem C3 (k:Nat){p:Int}(h1:p<=100):fX p (tab (k+2) 12):=vb (HP k p) (Hm k h1)
theorem Hh (k:Nat)(xs:List Rt)(p:Int):mX xs p (tab (k+1) 15):=CK
theorem F8 (k:Nat):fS (tab (k+1) 17):=Dv
theorem Bg (k:Nat){p:Int}(h0:0<=p)(h1:p<=100):wN p (tab (k+3) 16):=Dj h0 (EW (k+1) h0 h1) (zW k p) (A8 k) (C3 k h1) (fun xs=>Hh (k+1) xs p) (F8 (k+1))
theorem GU (k:Nat):qH (tab (k+3) 18):=A0 (BO k)
theorem GK (k:Nat):rZ (tab (k+4) 22):=Am (qz (k+2)) (GU k)
theorem Gr (k:Nat){p:Int}(h1:p<=100):rO p (tab (k+9) 23):=A3 h1 (qz (k+7)) (Jy k)
theorem Gm (k:Nat){p:Int}(h1:p<=100):lb p (tab (k+10) 21):=yC (qz (k+8)) (GK (k+5)) (Gr k h1)
theorem Ig (k:Nat){p:Int}(h1:p<=100)(xs:List Rt)(hx:∀x∈xs,bJ p x)(hn:xs.length<=100):rS xs p (tab (k+3) 20):=BD hx hn (zW k p) (A8 k) (C3 k h1)
theorem Hb (k:Nat){p:Int}(h0:0<=p)(h1:p<=100):zX p (tab (k+11) 19):=ED (Ic (k+9)) (EW (k+9) h0 h1) (Gm k h1) (fun xs hx hn=>Ig (k+7) h1 xs hx hn)
theorem JZ (k:Nat):kG (tab (k+1) 24):=zk
theorem sP (k:Nat):eO (tab (k+1) 25):=yU
theorem xm (k:Nat):eQ (tab (k+2) 26):=yZ (sP k)
theorem AL (k:Nat):gn (tab (k+3) 27):=yH (xm k)
theorem Hn (k:Nat){p:Int}(h0:0<p)(h1:p<=100):oG p (tab (k+4) 28):=zJ (sP (k+2)) (xm (k+1)) (AL k) h0 h1
theorem Fp (k:Nat):tab (k+5) 29=az false 7 2 (jB (tab (k+4) 25) (tab (k+4) 26) (tab (k+4) 28)):=rfl
theorem Fm (k:Nat):tab (k+5) 30=az false 9 3 (jC (tab (k+4) 25) (tab (k+4) 26) (tab (k+4) 27)):=rfl
def xS:FS:=bH (gZ (aH (ao cX (af 5) (ao oEq (ao aw (af 7) (fC (.int 0))) (fC (.str "none"))))) (eY (cy (bO (af 5))) (aH (ao cX (af 7) (aN aG (aa (fC (.str "order")) (aa (jn (aa (aq bP (aa (af 6) aj)) aj)) aj))))))) (aB (fC (.bl false))) aL
def xK (T:Nat->Fn):FS:=bH (eY (bO (af 5)) (aH (ao cU (aq (T 19) (aa (af 3) (aa (af 6) (aa (ao aw (af 7) (fC (.int 1))) aj)))) (fC (.bl true))))) (aB (fC (.bl false))) aL
def oN:FT:=eY (aH (ao cX (af 6) (aN aG aj))) (aH (ao me (ao aw (ao aw (af 6) (hX fj (fC (.int 1)))) (fC (.int 4))) (fC .non)))
def xa:FS:=aF (ao aM (cz (af 6) cA (bQ (hX fj (fC (.int 1))))) (aN aG (aa (ao aM (cz (ao aw (af 6) (hX fj (fC (.int 1)))) cA (bQ (fC (.int 3)))) (aN aG (aa (fC .non) (aa (fC .non) aj)))) aj))) (gN 8)
def xy (T:Nat->Fn):FS:=bH (aH (ao cX (ao aw (aq (T 16) (aa (af 3) (aa (af 8) aj))) (fC (.int 0))) (ao aw (af 7) (fC (.int 0))))) (aB (fC (.bl false))) aL
def rR (T:Nat->Fn):FS:=av (aF (aq eH (aa (af 4) aj)) (gN 6)) (av (aF (aq (T 16) (aa (af 3) (aa (af 6) aj))) (gN 7)) (av xS (av (xK T) (bH oN (av xa (xy T)) aL))))
def iter (T:Nat->Fn):FS:=av (aF (aq (T 24) (aa (af 0) (aa (af 1) aj))) (gN 2)) (av (aF (ao aM (fC (.int 1)) (aq (T 25) (aa (af 2) (aa (fC (.int 5)) aj)))) (gN 3)) (av (aF (aq (T 30) (aa (af 2) (aa (af 3) (aa (aq (T 29) (aa (af 2) (aa (af 3) aj))) aj)))) (gT 2 (ax (gN 4) (ax (gN 5) aY)))) (rR T)))
def w_ (T:Nat->Fn):FS:=av (ed (iM (aa (aq lK (aa (fC (.int 1)) (aa (aq lC (aa (fC (.int 6)) (aa (aq bP (aa (af 0) aj)) aj))) aj))) aj)) (gN 1) (iter T)) (aB (fC (.bl true)))
theorem As (T:Nat->Fn):Bx T=w_ T:=rfl
abbrev S9 (c0 c1:Option D)(n:Nat)(p:Int)(ys:List Rt)(w:Bool)(c6 c7 c8:Option D):Sg:=[c0,c1,some (.ref n),some (.int p),some (.lst (ys.map rt)),some (.bl w),c6,c7,c8]
theorem eqB (a b:Bool):aA (.bl a) (.bl b)=(a == b):=by cases a<;>cases b<;>rfl
theorem B8 {g:G}:oEq (.str "none") (.str "none") g=some (.bl true,g)/\oEq (.str "order") (.str "none") g=some (.bl false,g):=by
 constructor
 . unfold oEq;simp [flat,dep,Pd.eq_str]
 . have:¬(Str.ofString "order" = Str.ofString "none"):=by decide
   unfold oEq;simp [flat,dep,Pd.eq_str,this]
theorem D8 {σ:Sg}{g:G}{L:List D}(h:σ[6]? = some (some (.tup L)))(hl:L.length<=100):jn (aa (aq bP (aa (af 6) aj)) aj) σ g=some (.tup (kD (List.range L.length)),g):=by
 unfold jn
 have e1:(aa (aq bP (aa (af 6) aj)) aj) σ g=some ([.int (L.length:Int)],g):=by simp [h,cf]
 have k1:da (L.length:Int)=true:=da.of (by omega) (by omega)
 have k2:aD L.length=true:=a_ (by omega)
 rw [e1]
 simp [mP,k1,k2,kD]
theorem DJ {c0 c1 c8:Option D}{n:Nat}{p:Int}{ys:List Rt}{w:Bool}{d:D}{g:G}(hl:ys.length<=100)(hd:(w=false/\d = .tup [.str "order",.tup (kD (List.range ys.length))])\/(w=true /\ ∃t,d = .tup [.str "none",t])) :
   xS (S9 c0 c1 n p ys w (some (.tup (ys.map rt))) (some d) c8) g=some (.nx,S9 c0 c1 n p ys w (some (.tup (ys.map rt))) (some d) c8,g):=by
 obtain⟨q1,q2⟩:=B8 (g:=g)
 have tr:=D8 (σ:=S9 c0 c1 n p ys w (some (.tup (ys.map rt))) (some d) c8) (g:=g) (L:=ys.map rt) rfl (by simpa using hl)
 rw [List.length_map] at tr
 obtain⟨f1,f2⟩:=lB (List.range ys.length)
 have flB:∀b,flat (.bl b)=true:=fun _=>rfl
 have dpB:∀b,dep (.bl b)<=60:=fun _=>Nat.zero_le _
 have onF:(Str.ofString "order" == Str.ofString "none")=false:=by decide
 rcases hd with⟨rfl,rfl⟩ | ⟨rfl,t,rfl⟩
 . have fl:flat (.tup [.str "order",.tup (kD (List.range ys.length))])=true:=by simp [flat,aX,f1]
   have dl:dep (.tup [.str "order",.tup (kD (List.range ys.length))])<=60:=by simp [dep,bM,f2]
   have er:=eh _ fl
   generalize kD (List.range ys.length)=kk at *
   unfold xS
   simp [el,onF,flB,dpB,eqB,tr,fl,dl,er]
 . unfold xS
   simp [el,flB,dpB,eqB]
theorem EA {k:Nat}{c0 c1 c8:Option D}{n:Nat}{p:Int}{ys:List Rt}{w:Bool}{d:D}{g:G}(h0:0<=p)(hp:p<=100)(hy:∀y∈ys,bJ p y)(hl:ys.length<=100)(hb:sY ys p)(hc:Clean g)(hd:(w=false)\/(w=true /\ ∃es,d = .tup [.str "none",.tup ((keys es).map (bx ys))]/\cG ys p es/\de ys p es)) :
   xK (tab (k+11)) (S9 c0 c1 n p ys w (some (.tup (ys.map rt))) (some d) c8) g=some (.nx,S9 c0 c1 n p ys w (some (.tup (ys.map rt))) (some d) c8,g):=by
 rcases hd with rfl | ⟨rfl,es,rfl,C,hC⟩
 . simp [xK]
 . have e1:=Hb k h0 hp ys es g hy hl C (hb es C) hC hc
   generalize (keys es).map (bx ys)=yy at *
   simp [xK,eV,e1,isLit]
theorem Iv {L:List D}{x:D}{g:G}:dA (.tup (L ++ [x])) none (some (-1)) g=some (.tup L,g):=by
 show some (D.tup (cutD (L ++ [x]) none (some (-1))),g)=_
 unfold cutD
 have e:HT.aU (L ++ [x]).length (L ++ [x]).length (some (-1))=L.length:=by
  unfold HT.aU
  dsimp only
  rw [if_pos (by decide)]
  simp
  omega
 rw [e,HT.gj]
 simp
theorem BB {c0 c1 c7 c8:Option D}{n:Nat}{p:Int}{ys zs:List Rt}{x:Rt}{w:Bool}{g:G}(hl:zs.length<=100) :
  xa (S9 c0 c1 n p ys w (some (.tup ((zs ++ [x]).map rt))) c7 c8) g=some (.nx,S9 c0 c1 n p ys w (some (.tup ((zs ++ [x]).map rt))) c7 (some (.tup ((zs ++ [cJ x]).map rt))),g):=by
 have s1:=Iv (L:=zs.map rt) (x:=rt x) (g:=g)
 have a1:=oC (zs.map rt) (rt x)
 have s3:dA (rt x) none (some 3) g=some (.tup [.int x.1.h,x.1.dd,.int x.1.b],g):=fA (ky (a:=3) (by simp))
 have hz:aD ((zs.map rt).length+1)=true:=a_ (by simp;omega)
 have e1:rt (cJ x) = .tup [.int x.1.h,x.1.dd,.int x.1.b,.non,.non]:=rfl
 rw [List.map_append,List.map_append,List.map_singleton,List.map_singleton,e1]
 generalize zs.map rt=L at *
 generalize rt x=R at *
 unfold xa
 simp [s1,a1,s3,hz]
theorem ER {k:Nat}{c0 c1:Option D}{n:Nat}{p:Int}{ys:List Rt}{w:Bool}{t:D}{c8:Option D}{g:G}(h0:0<=p)(hp:p<=100)(hw:Lw p ys w)(hl:ys.length<=100)(hc:Clean g) :
   ∃c8',bH oN (av xa (xy (tab (k+3)))) aL (S9 c0 c1 n p ys w (some (.tup (ys.map rt))) (some (.tup [.str (if w then "none" else "order"),t])) c8) g=some (.nx,S9 c0 c1 n p ys w (some (.tup (ys.map rt))) (some (.tup [.str (if w then "none" else "order"),t])) c8',g):=by
 rcases List.eq_nil_or_concat ys with rfl | ⟨zs,x,rfl⟩
 . refine⟨c8,?_⟩
   have fl:flat (.tup [])=true:=rfl
   have dl:dep (.tup [])<=60:=by simp [dep,bM]
   have er:aA (.tup []) (.tup [])=true:=rfl
   simp [oN,fl,dl,er]
 . rw [List.concat_eq_append] at *
   have hx:=hw.g x (by simp)
   obtain⟨f1,f2⟩:=wx hw.g
   have fl:flat (.tup ((zs ++ [x]).map rt))=true:=by simpa [flat] using f1
   have dl:dep (.tup ((zs ++ [x]).map rt))<=60:=by simp only [dep];omega
   have fl0:flat (.tup [])=true:=rfl
   have er:aA (.tup ((zs ++ [x]).map rt)) (.tup [])=false:=by
     rw [iU]
     cases zs<;>simp [cv]
   have a1:cH ((zs ++ [x]).map rt) (-1)=some (rt x):=by
     rw [List.map_append]
     exact oC _ _
   have ea:=BB (c0:=c0) (c1:=c1) (c7:=some (.tup [.str (if w then "none" else "order"),t])) (c8:=c8) (n:=n) (p:=p) (ys:=zs ++ [x]) (zs:=zs) (x:=x) (w:=w) (g:=g) (by simp at hl;omega)
   rcases bJ.pY hx with e | ⟨st,e,_⟩
   . have ev:oN (S9 c0 c1 n p (zs ++ [x]) w (some (.tup ((zs ++ [x]).map rt))) (some (.tup [.str (if w then "none" else "order"),t])) c8) g=some (true,g):=by
      generalize (zs ++ [x]).map rt=LL at *
      simp [oN,fl,dl,fl0,er,a1,rt,ip,e,isLit,cP]
     obtain⟨o1,o2,o3⟩:=hw.cJ (d:=.non) e
     obtain⟨d2,e2,hd2⟩:=Bg k h0 hp (zs ++ [cJ x]) g o1 (by simpa using hl) (mi o2 (by simp at hl ⊢;omega)) hc
     obtain⟨t2,rfl⟩:=(hw.cJ (d:=d2) e).2.2 hd2
     refine⟨some (.tup ((zs ++ [cJ x]).map rt)),?_⟩
     have fs:flat (.str (if w then "none" else "order"))=true:=rfl
     have ds:dep (.str (if w then "none" else "order"))<=60:=Nat.zero_le _
     have es:=eh _ fs
     have eb:xy (tab (k+3)) (S9 c0 c1 n p (zs ++ [x]) w (some (.tup ((zs ++ [x]).map rt))) (some (.tup [.str (if w then "none" else "order"),t])) (some (.tup ((zs ++ [cJ x]).map rt)))) g=some (.nx,S9 c0 c1 n p (zs ++ [x]) w (some (.tup ((zs ++ [x]).map rt))) (some (.tup [.str (if w then "none" else "order"),t])) (some (.tup ((zs ++ [cJ x]).map rt))),g):=by
      generalize (zs ++ [cJ x]).map rt=L2 at *
      generalize (.str (if w then "none" else "order"):D)=tg at *
      simp [xy,e2,el,fs,ds,es]
     simp only [fw,ev,Option.bind_some,if_true,dh,ea,eb]
   . refine⟨c8,?_⟩
     have ev:oN (S9 c0 c1 n p (zs ++ [x]) w (some (.tup ((zs ++ [x]).map rt))) (some (.tup [.str (if w then "none" else "order"),t])) c8) g=some (false,g):=by
      generalize (zs ++ [x]).map rt=LL at *
      simp [oN,fl,dl,fl0,er,a1,rt,ip,e,isLit,cP]
     simp only [fw,ev,Option.bind_some]
     simp
theorem yq {k:Nat}{c0 c1 c6 c7 c8:Option D}{n:Nat}{p:Int}{ys:List Rt}{w:Bool}{g:G}(h0:0<=p)(hp:p<=100)(hw:Lw p ys w)(hl:ys.length<=100)(hc:Clean g) :
  ∃d6 d7 d8,rR (tab (k+11)) (S9 c0 c1 n p ys w c6 c7 c8) g=some (.nx,S9 c0 c1 n p ys w d6 d7 d8,g):=by
 have hb:=mi (p:=p) hw.chain (by omega)
 obtain⟨d,e1,hd⟩:=Bg (k+8) h0 hp ys g hw.g hl hb hc
 have ho:=hw.ord hd
 have hz:aD ys.length=true:=a_ (by omega)
 have ht:∃t,d = .tup [.str (if w then "none" else "order"),t]:=by
  rcases ho with⟨rfl,rfl⟩ | ⟨rfl,es,rfl,_⟩
  . exact⟨_,rfl⟩
  . exact⟨_,rfl⟩
 have e2:=DJ (c0:=c0) (c1:=c1) (c8:=c8) (n:=n) (p:=p) (ys:=ys) (w:=w) (d:=d) (g:=g) hl (by
  rcases ho with⟨h1,h2⟩ | ⟨h1,es,h2,_⟩
  . exact .inl ⟨h1,h2⟩
  . exact .inr ⟨h1,_,h2⟩)
 have e3:=EA (k:=k) (c0:=c0) (c1:=c1) (c8:=c8) (n:=n) (p:=p) (ys:=ys) (w:=w) (d:=d) (g:=g) h0 hp hw.g hl hb hc (by
  rcases ho with⟨h1,h2⟩ | h
  . exact .inl h1
  . exact .inr h)
 obtain⟨t,rfl⟩:=ht
 obtain⟨d8,e4⟩:=ER (k:=k+8) (c0:=c0) (c1:=c1) (n:=n) (t:=t) (c8:=c8) (g:=g) h0 hp hw hl hc
 refine⟨some (.tup (ys.map rt)),some (.tup [.str (if w then "none" else "order"),t]),d8,?_⟩
 have bt:aF (aq eH (aa (af 4) aj)) (gN 6) (S9 c0 c1 n p ys w c6 c7 c8) g=some (.nx,S9 c0 c1 n p ys w (some (.tup (ys.map rt))) c7 c8,g):=by
  simp [eH,cf,hz]
 have or_:aF (aq (tab (k+11) 16) (aa (af 3) (aa (af 6) aj))) (gN 7) (S9 c0 c1 n p ys w (some (.tup (ys.map rt))) c7 c8) g=some (.nx,S9 c0 c1 n p ys w (some (.tup (ys.map rt))) (some (.tup [.str (if w then "none" else "order"),t])) c8,g):=by
  have e1':tab (k+11) 16 [.int p,.tup (ys.map rt)] g=some (.tup [.str (if w then "none" else "order"),t],g):=e1
  generalize (.str (if w then "none" else "order"):D)=tg at *
  simp [e1']
 unfold rR
 simp only [dh,bt,or_,e2,e3,Option.bind_some]
 exact e4
def JY (ns:List Int)(i:Nat)(σ:Sg)(g:G):Prop:=(∃o1 o2 o3 o4 o5 o6 o7 o8,σ = [some (.lst (ns.map .int)),o1,o2,o3,o4,o5,o6,o7,o8])/\Clean g
set_option maxHeartbeats 4000000 in
theorem vG (ns:List Int)(hl:ns.length<=63):∃g',tab 60 31 [.lst (ns.map .int)] []=some (.bl true,g'):=by
 have main:wp (tab 60 31 [.lst (ns.map .int)] []) fun r=>r.1 = .bl true:=by
  refine fW rfl ?_
  simp only [As,w_,dh,wp_bind,pT]
  refine qV ?_
  simp
  refine⟨by split<;>omega,by split<;>omega,?_⟩
  refine lu (JY ns) _ 0 _ _ ⟨⟨_,_,_,_,_,_,_,_,rfl⟩,fun x hx=>by simp at hx⟩ ?_ ?_
  . rintro j d σ g hd ⟨⟨o1,o2,o3,o4,o5,o6,o7,o8,rfl⟩,hc⟩
    obtain⟨hj,rfl⟩:=nZ hd
    have hj8:j<10:=by
     revert hj;split<;>omega
    simp [iter]
    refine(JZ 58).w (by omega) fun cs hh=>?_
    have hc1:=hc.app hh
    simp
    generalize g.length=n at *
    refine(sP 58).w (by decide) (by decide) (by decide) hh fun r g1 r0 r1 h1 f1=>?_
    have hc2:=hc1.fr f1 h1
    simp
    rw [Fp 54]
    refine yN (p:=1+r) (sP 57) (xm 56) (Hn 54 (by omega) (by omega)) (by decide) (by omega) (by omega) h1 hc2 fun xs st a g3 R hx h3 f3=>?_
    have hc3:=hc2.fr f3 h3
    simp
    rw [Fm 54]
    refine zg (sP 57) (xm 56) (AL 55) (by decide) (by omega) (by omega) R.g (by omega) h3 hc3 fun ys w g4 hb h4 f4=>?_
    have hc4:=hc3.fr f4 h4
    obtain⟨hw,hyl⟩:=EJ R hb
    obtain⟨d6,d7,d8,er⟩:=yq (k:=48) (n:=n) (g:=g4) (c0:=some (.lst (ns.map .int))) (c1:=some (.int j)) (c6:=o6) (c7:=o7) (c8:=o8) (by omega) (by omega) hw (by omega) hc4
    simp
    refine⟨_,er,?_⟩
    exact⟨⟨_,_,_,_,_,_,_,_,rfl⟩,hc4⟩
  . rintro σ g ⟨⟨o1,o2,o3,o4,o5,o6,o7,o8,rfl⟩,hc⟩
    simp
    rfl
 obtain⟨⟨d,g'⟩,e,h⟩:=main
 cases h
 exact⟨g',e⟩
end K53
namespace K53
open PySem PySem.Spec PyProof.Rows L2 L3 RI
theorem walk {l:PySem.W.OpenLaw}{q:Program}{loose:List Str}{XP:(Str->Option Value)->Heap->Prop}{YP:World->Heap->Prop}{d:DefRec}{K:Params->PySem.W.Frag}(hn:l.most=some 63)(hdf:d.params.defaults = [])(hdn:d.name = "law")
  (hY:∀(w:World) (h:Heap),YP w h->(K w.params).In h)
  (F:∀(w:World) (mg:Str->Option Value) (h:Heap),(K w.params).In h->h.Ns mainGlobals mg->At (K w.params) w mg mo) :
  PySem.W.WalkO q loose XP YP l.row.toRowW d [] (fun f vs=>PySem.call f vs) :=
 RI.yE (i:=31) (R:=60) (x:="_law_script") hn ⟨rfl,by decide,by decide,rfl⟩ hdf hdn hY F rfl rfl rfl good vG
end K53
open PySem PySem.W PyProof.Rows
theorem PySem.W.Fast.te4366794733685009218:True:=trivial
theorem PySem.W.Fast.tw17517877871447289332:True:=trivial
theorem PySem.W.Fast.tw92934196051136885:True:=trivial
theorem PySem.W.Fast.tw11651582915621835239:True:=trivial
theorem PySem.W.Fast.tw2015543411208795690:True:=trivial
theorem PySem.W.Fast.tw16590365707869495083:True:=trivial
theorem PySem.W.Fast.tw5267693598295649138:True:=trivial
theorem PySem.W.Fast.tw17835524619629881973:True:=trivial
theorem PySem.W.Fast.tw15318704956320096811:True:=trivial
theorem PySem.W.Fast.tw7789505793193137610:True:=trivial
theorem PySem.W.Fast.tw3939805225846484479:True:=trivial
theorem PySem.W.Fast.tw12359656285825347700:True:=trivial
theorem PySem.W.Fast.tw12150489841991012739:True:=trivial
theorem PySem.W.Fast.tw11439014587303841868:True:=trivial
theorem PySem.W.Fast.tw1385412909994186964:True:=trivial
theorem PySem.W.Fast.tw17663747060629607342:True:=trivial
theorem PySem.W.Fast.tw11329794300412911070:True:=trivial
theorem PySem.W.Fast.tw4930524831490258309:True:=trivial
theorem PySem.W.Fast.tw13204797583311399453:True:=trivial
theorem PySem.W.Fast.tw9577881571808475332:True:=trivial
theorem PySem.W.Fast.tw5341299331349799552:True:=trivial
theorem PySem.W.Fast.tw8079289286735437707:True:=trivial
theorem PySem.W.Fast.tw11196786861506460870:True:=trivial
theorem PySem.W.Fast.tw4906688883455571543:True:=trivial
theorem PySem.W.Fast.tw7066751289575614162:True:=trivial
theorem PySem.W.Fast.tw17448066224305386044:True:=trivial
theorem PySem.W.Fast.tw15859762660790368797:True:=trivial
theorem PySem.W.Fast.tw2194094104138481649:True:=trivial
theorem PySem.W.Fast.tw13725196862005056196:True:=trivial
theorem PySem.W.Fast.tw8286775175674056563:True:=trivial
theorem PySem.W.Fast.tw15476287843206170574:True:=trivial
theorem PySem.W.Fast.tw5769507738805799777:True:=trivial
theorem PySem.W.Fast.tw3192672554926750732:True:=trivial
theorem PySem.W.Fast.tw2497205837292589023:True:=trivial
theorem PySem.W.Fast.tw10444056695449967691:True:=trivial
theorem PySem.W.Fast.tw12516744391204361381:True:=trivial
theorem PySem.W.Fast.tw10618942745823081890:True:=trivial
theorem PySem.W.Fast.tw13544132006974290604:True:=trivial
theorem PySem.W.Fast.tw4616909231350728371:True:=trivial
theorem PySem.W.Fast.tw13390357769642677985:True:=trivial
theorem PySem.W.Fast.tw14640784970573665999:True:=trivial
theorem PySem.W.Fast.tw18337023384429460952:True:=trivial
theorem PySem.W.Fast.tw9081761856550694709:True:=trivial
theorem PySem.W.Fast.tw14411426517433027084:True:=trivial
theorem PySem.W.Fast.tw17593594868103499587:True:=trivial
theorem PySem.W.Fast.tw11246658460377156016:True:=trivial
theorem PySem.W.Fast.tw2778665249416584335:True:=trivial
theorem PySem.W.Fast.tw15361291410468083097:True:=trivial
theorem PySem.W.Fast.tw16653589711485014699:True:=trivial
theorem PySem.W.Fast.tw4905195565398754913:True:=trivial
theorem PySem.W.Fast.tw5165527803841419970:True:=trivial
theorem PySem.W.Fast.tw15765730636866432228:True:=trivial
theorem PySem.W.Fast.tw1978188853917854541:True:=trivial
theorem PySem.W.Fast.tw9673765231091140874:True:=trivial
theorem PySem.W.Fast.tw14285073988421394986:True:=trivial
theorem PySem.W.Fast.tw9784346124628884187:True:=trivial
theorem PySem.W.Fast.tw9932084071533025490:True:=trivial
theorem PySem.W.Fast.tw17609986828762807206:True:=trivial
theorem PySem.W.Fast.tw12651802802776586881:True:=trivial
theorem PySem.W.Fast.tw2440185241935268977:True:=trivial
theorem PySem.W.Fast.tw17661405238679421343:True:=trivial
theorem PySem.W.Fast.tw12677503846176412011:True:=trivial
theorem PySem.W.Fast.tw9695856670391616079:True:=trivial
theorem PySem.W.Fast.tw11942922383291290393:True:=trivial
theorem PySem.W.Fast.tw6067541370131993559:True:=trivial
theorem PySem.W.Fast.tw10967489619440411829:True:=trivial
theorem PySem.W.Fast.tw14224383615266995728:True:=trivial
theorem PySem.W.Fast.tw4456679847591468377:True:=trivial
theorem PySem.W.Fast.tw5650201024833350615:True:=trivial
theorem PySem.W.Fast.tw4492117297149373983:True:=trivial
theorem PySem.W.Fast.tw5641523408260626138:True:=trivial
theorem PySem.W.Fast.tw18417544514135532032:True:=trivial
theorem PySem.W.Fast.tw18010630284667444150:True:=trivial
theorem PySem.W.Fast.tw9312340108459977908:True:=trivial
theorem PySem.W.Fast.tw16315182631182930220:True:=trivial
theorem PySem.W.Fast.tw14999997467621793457:True:=trivial
theorem PySem.W.Fast.tw2863044757053386860:True:=trivial
theorem PySem.W.Fast.tw9231709716374317182:True:=trivial
theorem PySem.W.Fast.tw3643551610416339065:True:=trivial
theorem PySem.W.Fast.tw3002869118076353842:True:=trivial
theorem PySem.W.Fast.tw10293766525618673774:True:=trivial
theorem PySem.W.Fast.tw18233669450359540457:True:=trivial
theorem PySem.W.Fast.tw5655781549175379704:True:=trivial
theorem PySem.W.Fast.tw7120436061328328698:True:=trivial
theorem PySem.W.Fast.tw4270366249463475230:True:=trivial
theorem PySem.W.Fast.tw9257547590861295876:True:=trivial
theorem PySem.W.Fast.tw16097713090781896341:True:=trivial
theorem PySem.W.Fast.tw17961982709958245596:True:=trivial
theorem PySem.W.Fast.tw15319169572689813367:True:=trivial
theorem PySem.W.Fast.tw606187319156854021:True:=trivial
theorem PySem.W.Fast.tw10720843283338273207:True:=trivial
theorem PySem.W.Fast.tw10155634683944666940:True:=trivial
theorem PySem.W.Fast.tw17342238412006446432:True:=trivial
theorem PySem.W.Fast.tw9967146366497201314:True:=trivial
theorem PySem.W.Fast.tw17695620615668924419:True:=trivial
theorem PySem.W.Fast.tw517065426521737434:True:=trivial
theorem PySem.W.Fast.tw1395364593147235014:True:=trivial
theorem PySem.W.Fast.tw9212888249548089224:True:=trivial
theorem PySem.W.Fast.tw17076768911599201022:True:=trivial
theorem PySem.W.Fast.tw15717293984952302247:True:=trivial
theorem PySem.W.Fast.tw12394315850505381937:True:=trivial
theorem PySem.W.Fast.tw14695149243311930889:True:=trivial
theorem PySem.W.Fast.tw4857802535617331507:True:=trivial
theorem PySem.W.Fast.tw13200809093913205165:True:=trivial
theorem PySem.W.Fast.tw8038962314442225213:True:=trivial
theorem PySem.W.Fast.tw14812937938783290351:True:=trivial
theorem PySem.W.Fast.tw7026213863307491222:True:=trivial
theorem PySem.W.Fast.tw15941218363349343350:True:=trivial
theorem PySem.W.Fast.tw7252655604968354602:True:=trivial
theorem PySem.W.Fast.tw5798941234004930460:True:=trivial
theorem PySem.W.Fast.tw11520575725040852722:True:=trivial
theorem PySem.W.Fast.tw12851703769423454817:True:=trivial
theorem PySem.W.Fast.tw8960225798072270352:True:=trivial
theorem PySem.W.Fast.tw15048917587982023294:True:=trivial
theorem PySem.W.Fast.tw12905943224326052501:True:=trivial
theorem PySem.W.Fast.tw403304466261270295:True:=trivial
theorem PySem.W.Fast.tw13872485661766007519:True:=trivial
theorem PySem.W.Fast.tw3365993910231405695:True:=trivial
theorem PySem.W.Fast.tw4584822375323268673:True:=trivial
theorem PySem.W.Fast.tw3357243779138181245:True:=trivial
theorem PySem.W.Fast.tw9627252810481579383:True:=trivial
theorem PySem.W.Fast.tw11394910031274332298:True:=trivial
theorem PySem.W.Fast.tw9595519188127900832:True:=trivial
theorem PySem.W.Fast.tw8119252243940103350:True:=trivial
theorem PySem.W.Fast.tw6688615147316909175:True:=trivial
theorem PySem.W.Fast.tw10442572668489852209:True:=trivial
set_option maxRecDepth 100000 in
set_option maxHeartbeats 0 in
theorem PySem.Challenge.cw_wholeglance_k53_whole_rows_one_behind_th_holds : PySem.Challenge.rw_wholeglance_k53_whole_rows_one_behind_th.Holds := by
  w_on; o_law; k_head; (case hw => w_witness2)
  k_fill
  refine K53.walk (l := PySem.Challenge.rw_wholeglance_k53_whole_rows_one_behind_th) rfl rfl rfl (fun w h Y => by first | exact PySem.W.kIn_of Y | exact PySem.W.km_in_of Y) ?F
  case F =>
    intro w mg h KX G
    refine' ⟨_, _, (RI.bC.cons (nm := "is_whole") (ps := ["thing"]) (st := K53.top 1) ?a0 ?l0 ?e0 ?k0 (RI.mK (fun _ => rfl))
    (RI.bC.cons (nm := "is_within") (ps := ["thing", "least", "most"]) (st := K53.top 2) ?a1 ?l1 ?e1 ?k1 (RI.p7 (fun _ _ _ => rfl))
    (RI.bC.cons (nm := "is_figured") (ps := ["thing", "most"]) (st := K53.top 3) ?a2 ?l2 ?e2 ?k2 (RI.fO (fun _ _ => rfl))
    (RI.bC.cons (nm := "is_tuple_of") (ps := ["thing", "least", "most"]) (st := K53.top 4) ?a3 ?l3 ?e3 ?k3 (RI.p7 (fun _ _ _ => rfl))
    (RI.bC.cons (nm := "is_same") (ps := ["thing", "value"]) (st := K53.top 5) ?a4 ?l4 ?e4 ?k4 (RI.fO (fun _ _ => rfl))
    (RI.bC.cons (nm := "zeros") (ps := ["count"]) (st := K53.top 7) ?a5 ?l5 ?e5 ?k5 (RI.mK (fun _ => rfl))
    (RI.bC.cons (nm := "is_value") (ps := ["thing"]) (st := K53.top 12) ?a6 ?l6 ?e6 ?k6 (RI.mK (fun _ => rfl))
    (RI.bC.cons (nm := "is_value_within") (ps := ["thing", "deep"]) (st := K53.top 13) ?a7 ?l7 ?e7 ?k7 (RI.fO (fun _ _ => rfl))
    (RI.bC.cons (nm := "is_ahead") (ps := ["row", "other"]) (st := K53.top 15) ?a8 ?l8 ?e8 ?k8 (RI.fO (fun _ _ => rfl))
    (RI.bC.cons (nm := "bits_of") (ps := ["numbers"]) (st := K53.top 17) ?a9 ?l9 ?e9 ?k9 (RI.mK (fun _ => rfl))
    (RI.bC.cons (nm := "ended_bits") (ps := ["story"]) (st := K53.top 18) ?a10 ?l10 ?e10 ?k10 (RI.mK (fun _ => rfl))
    (RI.bC.cons (nm := "plan_of") (ps := ["story"]) (st := K53.top 19) ?a11 ?l11 ?e11 ?k11 (RI.mK (fun _ => rfl))
    (RI.bC.cons (nm := "leads") (ps := ["plan", "done", "state"]) (st := K53.top 20) ?a12 ?l12 ?e12 ?k12 (RI.p7 (fun _ _ _ => rfl))
    (RI.bC.cons (nm := "fits") (ps := ["row", "state"]) (st := K53.top 21) ?a13 ?l13 ?e13 ?k13 (RI.fO (fun _ _ => rfl))
    (RI.bC.cons (nm := "state_behind") (ps := ["row", "state"]) (st := K53.top 22) ?a14 ?l14 ?e14 ?k14 (RI.fO (fun _ _ => rfl))
    (RI.bC.cons (nm := "way_to") (ps := ["came", "room"]) (st := K53.top 24) ?a15 ?l15 ?e15 ?k15 (RI.fO (fun _ _ => rfl))
    (RI.bC.cons (nm := "ordered") (ps := ["places", "story"]) (st := K53.top 26) ?a16 ?l16 ?e16 ?k16 (RI.fO (fun _ _ => rfl))
    (RI.bC.cons (nm := "rows_done") (ps := ["done", "rows"]) (st := K53.top 27) ?a17 ?l17 ?e17 ?k17 (RI.fO (fun _ _ => rfl))
    (RI.bC.cons (nm := "are_rows") (ps := ["story", "thing"]) (st := K53.top 29) ?a18 ?l18 ?e18 ?k18 (RI.fO (fun _ _ => rfl))
    (RI.bC.cons (nm := "shows_none") (ps := ["places", "story", "thing"]) (st := K53.top 30) ?a19 ?l19 ?e19 ?k19 (RI.p7 (fun _ _ _ => rfl))
    (RI.bC.cons (nm := "lead_nowhere_else") (ps := ["story", "known"]) (st := K53.top 31) ?a20 ?l20 ?e20 ?k20 (RI.fO (fun _ _ => rfl))
    (RI.bC.cons (nm := "is_room") (ps := ["places", "story", "values", "thing"]) (st := K53.top 32) ?a21 ?l21 ?e21 ?k21 (RI.Fd (fun _ _ _ _ => rfl))
    (RI.bC.cons (nm := "is_rising") (ps := ["story", "thing"]) (st := K53.top 33) ?a22 ?l22 ?e22 ?k22 (RI.fO (fun _ _ => rfl))
    (RI.bC.cons (nm := "is_state_of") (ps := ["places", "values", "thing"]) (st := K53.top 34) ?a23 ?l23 ?e23 ?k23 (RI.p7 (fun _ _ _ => rfl))
    (RI.bC.cons (nm := "_law_hand") (ps := ["_law_script", "_law_k"]) (st := K53.top 36) ?a24 ?l24 ?e24 ?k24 (RI.fO (fun _ _ => rfl))
    (RI.bC.cons (nm := "_law_take") (ps := ["_law_hand_here", "_law_many"]) (st := K53.top 37) ?a25 ?l25 ?e25 ?k25 (RI.fO (fun _ _ => rfl))
    (RI.bC.cons (nm := "_law_pick") (ps := ["_law_hand_here", "_law_some"]) (st := K53.top 38) ?a26 ?l26 ?e26 ?k26 (RI.fO (fun _ _ => rfl))
    (RI.bC.cons (nm := "_law_some_value") (ps := ["_law_hand_here"]) (st := K53.top 39) ?a27 ?l27 ?e27 ?k27 (RI.mK (fun _ => rfl))
    (RI.bC.cons (nm := "_law_row") (ps := ["_law_hand_here", "_law_places", "_law_state", "_law_at"]) (st := K53.top 40) ?a28 ?l28 ?e28 ?k28 (RI.Fd (fun _ _ _ _ => rfl))
    (RI.bC.cons (nm := "_law_rows") (ps := ["_law_hand_here", "_law_places"]) (st := K53.top 41) ?a29 ?l29 ?Fp ?k29 (RI.fO (fun _ _ => rfl))
    (RI.bC.cons (nm := "_law_bent") (ps := ["_law_hand_here", "_law_places", "_law_rows_here"]) (st := K53.top 42) ?a30 ?l30 ?Fm ?k30 (RI.p7 (fun _ _ _ => rfl))
    (RI.bC.cons (nm := "law") (ps := ["_law_script"]) (st := K53.top 43) ?a31 ?l31 ?e31 ?k31 (RI.mK (fun _ => rfl))
    RI.bC.nil)))))))))))))))))))))))))))))))),
    (RI.bc ?z_len (RI.bc ?z_max (RI.bc ?z_min (RI.bc ?z_int (RI.bc ?z_tuple (RI.bc ?z_all (RI.bc ?z_any (RI.bc ?z_sum (RI.bc ?z_bool (RI.bc ?z_range (RI.bc ?z_enumerate (RI.bc ?z_zip (RI.bc ?z_isinstance (RI.bc ?z_reversed RI.bn)))))))))))))),
    (RI.cc (RI.cI ?q_TWELVE_FIGURES) (RI.cc (RI.cI ?q_MOST_PARTS) (RI.cc (RI.cI ?q_MOST_DEEP) RI.EZ))), RI.EZ⟩
    all_goals try first | k_is | rfl
