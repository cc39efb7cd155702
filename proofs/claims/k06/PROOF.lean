import PyProof.Rows.All
import Wide.All
import OpenK.AllK
import Wide.FinOn
import Lean
import PyProof.EqAt
import PyProof.EqKinds
import PyProof.TupleCall
import PySem.Challenge.RW_wholeglance_k06_first_boxes
set_option bootstrap.genMatcherCode false
set_option genSizeOf false
set_option Elab.async false
set_option linter.all false
set_option maxRecDepth 100000
namespace L2
open PySem PySem.Spec PyProof.Rows
abbrev Key:=Sum Int Str
noncomputable def pN:Key->Value->Bool
 |.inl k,v=>Value.isInt k v
 |.inr x,v=>Value.isStrOf x v
noncomputable def M9 (w:World):Key->Int
 |.inl k=>hashInt k
 |.inr x=>hashStr w x
theorem bR:∀{k:Key} {v:Value},pN k v=true->(∃i t,k=Sum.inl i/\v=Value.int i t)\/(∃x t,k=Sum.inr x/\v=Value.str x t)
 |.inl i,v,h=>by
  obtain⟨t,e⟩:=Value.isInt_shape (k:=i) (v:=v) h
  exact .inl ⟨i,t,rfl,e⟩
 |.inr x,v,h=>by
  obtain⟨t,e⟩:=Value.isStrOf_shape (x:=x) (v:=v) h
  exact .inr ⟨x,t,rfl,e⟩
theorem xA (x:Str)(t:Tok):pN (.inr x) (.str x t)=true:=by simp[pN,Value.isStrOf]
theorem FD (a b:Int):decide ((Sum.inl a:Key)=Sum.inl b)=(a == b):=by
 by_cases e:a=b
 . subst e;simp
 . have h:¬(Sum.inl a:Key)=Sum.inl b:=λq=>e (Sum.inl.inj q)
   rw[decide_eq_false h]
   exact(beq_eq_false_iff_ne.mpr e).symm
theorem FF (a b:Str):decide ((Sum.inr a:Key)=Sum.inr b)=decide (a=b):=by
 by_cases e:a=b
 . subst e;simp
 . have h:¬(Sum.inr a:Key)=Sum.inr b:=λq=>e (Sum.inr.inj q)
   rw[decide_eq_false h,decide_eq_false e]
theorem FH (a:Int)(b:Str):decide ((Sum.inl a:Key)=Sum.inr b)=false:=decide_eq_false (λq=>nomatch q)
theorem FJ (a:Str)(b:Int):decide ((Sum.inr a:Key)=Sum.inl b)=false:=decide_eq_false (λq=>nomatch q)
noncomputable def cO (prog:Program)(w:World):PySem.KeyKind prog w Key where
 is:=pN
 hash:=M9 w
 inj:=λv a b ha hb=>by
  rcases bR ha with⟨i,t,rfl,rfl⟩|⟨x,t,rfl,rfl⟩
  . rcases bR hb with⟨j,u,rfl,e⟩|⟨y,u,rfl,e⟩
    . injection e with e1 _;rw[e1]
    . exact nomatch e
  . rcases bR hb with⟨j,u,rfl,e⟩|⟨y,u,rfl,e⟩
    . exact nomatch e
    . injection e with e1 _;rw[e1]
 byValue:=λk v h=>by
  rcases bR h with⟨i,t,rfl,rfl⟩|⟨x,t,rfl,rfl⟩<;>rfl
 pyHash:=λhv h=>by
  rcases bR hv with⟨i,t,rfl,rfl⟩|⟨x,t,rfl,rfl⟩
  . exact wpAny_pyHash_int h
  . exact wpAny_pyHash_str h
 eqBool:=λhu hv h=>by
  rcases bR hu with⟨i,t,rfl,rfl⟩|⟨x,t,rfl,rfl⟩
  . rcases bR hv with⟨j,u,rfl,rfl⟩|⟨y,u,rfl,rfl⟩
    . rw[FD]at h;exact wpAny_eqBool_int h
    . rw[FH]at h;exact SeqAt.EqAt.int_str i t y u _ _ _ _ h
  . rcases bR hv with⟨j,u,rfl,rfl⟩|⟨y,u,rfl,rfl⟩
    . rw[FJ]at h;exact SeqAt.EqAt.str_int x t j u _ _ _ _ h
    . rw[FF]at h;exact wpAny_eqBool_str h
 «strs»:=λk x t v h=>by
  rcases bR h with⟨i,u,rfl,e⟩|⟨y,u,rfl,e⟩
  . exact nomatch e
  . injection e with e1 _
    subst e1
    cases v<;>rfl
theorem fE (prog:Program)(w:World)(x:Str)(t:Tok):(cO prog w).is (.inr x) (.str x t)=true:=xA x t
inductive V where
 |ao|bl (b:Bool)|int (i:Int)|str (x:Str)|xB (b:Array UInt8)|c_ (b:UInt64)|ref (a:Addr)|ty (n:String)
 deriving DecidableEq
noncomputable def RelV:V->Value->Prop
 |.ao,u=>u=Value.none
 |.bl b,u=>u=Value.bool b
 |.int i,u=>∃t,u=Value.int i t
 |.str x,u=>∃t,u=Value.str x t
 |.xB b,u=>∃t,u=Value.bytes b t
 |.c_ b,u=>∃t,u=Value.float b t
 |.ref a,u=>u=Value.ref a
 |.ty n,u=>u=Value.type n
noncomputable abbrev Vals:List V->List Value->Prop:=Paired RelV
theorem Vals.length {xs:List V}{us:List Value}(r:Vals xs us):xs.length=us.length:=Paired.length r
theorem Vals.get:∀{xs:List V} {us:List Value} {i:Nat} {x:V},Vals xs us->xs[i]? = some x->∃u,us[i]? = some u/\RelV x u
 |_,_,_,_,.nil,e=>by simp at e
 |_,_,0,_,.cons r _,e=>by simp at e;subst e;exact⟨_,rfl,r⟩
 |_,_,i+1,x,.cons _ t,e=>by
  obtain⟨u,h1,h2⟩:=Vals.get (i:=i) (x:=x) t (by simpa using e)
  exact⟨u,by simpa using h1,h2⟩
theorem Vals.set {x:V}{u:Value}(r:RelV x u):∀{xs:List V} {us:List Value} (i:Nat),Vals xs us->Vals (xs.set i x) (us.set i u)
 |_,_,_,.nil=>.nil
 |_,_,0,.cons _ t=>.cons r t
 |_,_,i+1,.cons q t=>.cons q (Vals.set r i t)
theorem Vals.append:∀{xs ys:List V} {us ws:List Value},Vals xs us->Vals ys ws->Vals (xs++ys) (us++ws)
 |_,_,_,_,.nil,s=>s
 |_,_,_,_,.cons r t,s=>.cons r (Vals.append t s)
theorem Vals.take:∀{xs:List V} {us:List Value} (n:Nat),Vals xs us->Vals (xs.take n) (us.take n)
 |_,_,0,_=>.nil
 |_,_,_+1,.nil=>.nil
 |_,_,n+1,.cons r t=>.cons r (Vals.take n t)
theorem Vals.drop:∀{xs:List V} {us:List Value} (n:Nat),Vals xs us->Vals (xs.drop n) (us.drop n)
 |_,_,0,r=>r
 |_,_,_+1,.nil=>.nil
 |_,_,n+1,.cons _ t=>Vals.drop n t
noncomputable def FK:Option V->Option Value->Prop
 |some v,some u=>RelV v u
 |none,none=>True
 |_,_=>False
noncomputable def KV {κ:Type}:List (κ×V)->List (κ×Value)->Prop:=Paired λ(p:κ×V) (q:κ×Value)=>p.1=q.1/\RelV p.2 q.2
noncomputable def kV:Key->V
 |.inl i=>.int i
 |.inr x=>.str x
def eA (h:Heap)(a:Addr)(items:Array Value):Prop:=∃o,h.get? a=some o/\o.cls = .type "tuple" /\ (∃n,o.data = .seq items n)/\o.dict=none
theorem eA.t {h:Heap}{a:Addr}{items:Array Value}(p:eA h a items):IsTup h a items:=let⟨o,h1,h2,h3,_⟩:=p;⟨o,h1,h2,h3⟩
theorem eA.new (h:Heap)(ah:Array Value):eA (h.push { cls:=.type "tuple",data:=.seq ah }) h.objs.size ah:=⟨_,Heap.get?_push_size _ rfl,rfl,⟨_,rfl⟩,rfl⟩
inductive HO where
 |lst (xs:List V)
 |tup (xs:List V)
 |dK (cz:List (Key×V))|dT (cz:List (List Key×V))
 |set (S:Int->Bool) (n:Nat)
 |ins (C dx:Addr) (fs:List (Str×V))
 |own (x:Addr)
 |xd (fs:List (Str×V))
 |met (f x:Addr)
 |dH (lo hi:Int)
 |jS (o:Obj) (u:HO)
 |aG (ps:Array Value)
 |ext (φ:Heap->Prop)
abbrev Hp:=Addr->Option HO
noncomputable def upd (H:Hp)(a:Addr)(o:HO):Hp:=λb=>if b=a then some o else H b
theorem aR {H:Hp}{a:Addr}{o:HO}:upd H a o a=some o:=by unfold upd;rw[if_pos rfl]
theorem aL {H:Hp}{a b:Addr}{o:HO}(h:b≠a):upd H a o b=H b:=by unfold upd;rw[if_neg h]
theorem vM {H:Hp}{a b:Addr}{o u:HO}(h:H a=some o)(h':H b=some u)(d:o≠u):a≠b:=by
 intro e;subst e;rw[h]at h';exact d (Option.some.inj h')
theorem bh {H:Hp}{a b:Addr}{o:HO}(h:H a=some o)(h':H b=none):a≠b:=by
 intro e;subst e;rw[h]at h';cases h'
section
variable (P:Program)(w:World)
noncomputable def b8 (H:Hp)(h:Heap)(a:Addr):HO->Prop
 |.lst xs=>xs.length<=sizeLine /\ ∃(ah:List Value) (n:Nat),Vals xs ah/\h.get? a=some { cls:=.type "list",data:=.seq ah.toArray n }
 |.tup xs=>xs.length<=sizeLine /\ ∃ah:List Value,Vals xs ah/\eA h a ah.toArray
 |.dK cz=>cz.length<=sizeLine/\(a == sysModules)=false /\ ∃vs,KV cz vs/\h.DictOf (cO P w) a vs
 |.dT cz=>cz.length<=sizeLine/\(a == sysModules)=false /\ ∃xs:List (List Key×Addr×Value),
  Paired (λ(p:List Key×V) (q:List Key×Addr×Value)=>p.1=q.1/\H q.2.1=some (.tup (p.1.map kV))/\RelV p.2 q.2.2) cz xs /\
  ∃o es ep,h.get? a=some o/\o.ExactDict/\o.data = .dict es ep/\es.toList=xs.map (entryOfKey (tupleKind (cO P w)))/\(xs.map (·.1)).Nodup
 |.set S n=>h.SetOf (intKind P w) a S n
 |.ins C dx fs=>H dx=some (.own a)/\fs.length<=1000/\dx≠a/\h.get? a=some (PySem.W.instObj C dx) /\
  ∃mA,h.Ns1 dx mA/\(∀f,FK (fs.lookup f) (mA f))/\PySem.Within mA (fs.map (·.1))
 |.own _=>∃o,h.get? a=some o
 |.xd fs=>∃mA,h.Ns1 a mA /\ ∀f,FK (fs.lookup f) (mA f)
 |.dH lo hi=>∃t u v,h.get? a=some { cls:=.type "range",data:=.fields #[.int lo t,.int hi u,.int 1 v] }
 |.jS o u=>h.get? a=some o/\b8 H h a u
 |.aG ps=>h.get? a=some { cls:=.none,data:=.fields ps }
 |.met f x=>h.get? a=some (PySem.W.methodObj (.ref f) (.ref x))
 |.ext φ=>φ h/\(∃o,h.get? a=some o) /\ ∀h1 h2:Heap,φ h1->(∀o,h1.get? a=some o->h2.get? a=some o)->φ h2
def dh (H:Hp)(h:Heap):Prop:=∀a o,H a=some o->b8 P w H h a o
end
section
variable {P:Program}{w:World}{H H':Hp}{h h':Heap}{a:Addr}{o:HO}
theorem b8.lt (x:b8 P w H h a o):a<h.objs.size:=by
 cases o with
 |lst xs=>obtain⟨_,_,_,_,e⟩:=x;exact Heap.lt_size e
 |tup xs=>obtain⟨_,_,_,p⟩:=x;exact p.t.lt
 |dK cz=>obtain⟨_,_,_,_,o,_,_,e,_⟩:=x;exact Heap.lt_size e
 |dT cz=>obtain⟨_,_,_,_,o,_,_,e,_⟩:=x;exact Heap.lt_size e
 |set S n=>obtain⟨o,_,_,_,e,_⟩:=x;exact Heap.lt_size e
 |ins C dx fs=>obtain⟨_,_,_,e,_⟩:=x;exact Heap.lt_size e
 |own y=>obtain⟨_,e⟩:=x;exact Heap.lt_size e
 |xd fs=>obtain⟨_,⟨_,_,_,e,_⟩,_⟩:=x;exact Heap.lt_size e
 |dH lo hi=>obtain⟨_,_,_,e⟩:=x;exact Heap.lt_size e
 |jS ob u=>obtain⟨e,_⟩:=x;exact Heap.lt_size e
 |aG ps=>exact Heap.lt_size (show h.get? a=some _ from x)
 |met f y=>exact Heap.lt_size (show h.get? a=some _ from x)
 |ext φ=>obtain⟨_,⟨_,e⟩,_⟩:=x;exact Heap.lt_size e
theorem Paired.FL {α β:Type}{F G:α->β->Prop}:∀{l₁:List α} {l₂:List β},Paired F l₁ l₂->(∀a b,F a b->G a b)->Paired G l₁ l₂
 |_,_,.nil,_=>.nil
 |_,_,.cons r t,f=>.cons (f _ _ r) (Paired.FL t f)
theorem b8.nK (x:b8 P w H h a o)(k:∀b u,(b=a\/H b=some (.own a))->h.get? b=some u->h'.get? b=some u)
  (ho:∀b,H b=some (.own a)->H' b=some (.own a)) (ht:∀b xs,H b=some (.tup xs)->H' b=some (.tup xs)):b8 P w H' h' a o:=by
 induction o with
 |lst xs=>obtain⟨z,ah,n,r,e⟩:=x;exact⟨z,ah,n,r,k _ _ (.inl rfl) e⟩
 |tup xs=>obtain⟨z,ah,r,ob,e,c⟩:=x;exact⟨z,ah,r,ob,k _ _ (.inl rfl) e,c⟩
 |dK cz=>obtain⟨z,y,vs,r,ob,es,ep,e,c⟩:=x;exact⟨z,y,vs,r,ob,es,ep,k _ _ (.inl rfl) e,c⟩
 |dT cz =>
  obtain⟨z,y,xs,r,ob,es,ep,e,c⟩:=x
  exact⟨z,y,xs,Paired.FL r λp q z=>⟨z.1,ht _ _ z.2.1,z.2.2⟩,ob,es,ep,k _ _ (.inl rfl) e,c⟩
 |set S n=>obtain⟨ob,es,ep,t,e,c⟩:=x;exact⟨ob,es,ep,t,k _ _ (.inl rfl) e,c⟩
 |ins C dx fs =>
  obtain⟨d,z,ne,e,mA,⟨od,es,ep,e2,c⟩,r⟩:=x
  exact⟨ho _ d,z,ne,k _ _ (.inl rfl) e,mA,⟨od,es,ep,k _ _ (.inr d) e2,c⟩,r⟩
 |own y=>obtain⟨ob,e⟩:=x;exact⟨ob,k _ _ (.inl rfl) e⟩
 |xd fs=>obtain⟨mA,⟨od,es,ep,e,c⟩,r⟩:=x;exact⟨mA,⟨od,es,ep,k _ _ (.inl rfl) e,c⟩,r⟩
 |dH lo hi=>obtain⟨t,u,v,e⟩:=x;exact⟨t,u,v,k _ _ (.inl rfl) e⟩
 |jS ob u ih=>obtain⟨e,q⟩:=x;exact⟨k _ _ (.inl rfl) e,ih q⟩
 |aG ps =>
  have e:h.get? a=some { cls:=.none,data:=.fields ps }:=x
  show h'.get? a=some { cls:=.none,data:=.fields ps }
  exact k a _ (.inl rfl) e
 |met f y =>
  have e:h.get? a=some (PySem.W.methodObj (.ref f) (.ref y)):=x
  show h'.get? a=some (PySem.W.methodObj (.ref f) (.ref y))
  exact k a _ (.inl rfl) e
 |ext φ=>obtain⟨p,⟨o,e⟩,st⟩:=x;exact⟨st _ _ p λo q=>k _ _ (.inl rfl) q,⟨o,k _ _ (.inl rfl) e⟩,st⟩
theorem dh.lt (x:dh P w H h)(e:H a=some o):a<h.objs.size:=(x a o e).lt
theorem dh.fresh (x:dh P w H h)(e:h.objs.size<=a):H a=none:=by
 cases q:H a with
 |none=>rfl
 |some u=>exact absurd (Nat.lt_of_lt_of_le (x.lt q) e) (Nat.lt_irrefl _)
theorem dh.kept (x:dh P w H h)(k:∀b u,h.get? b=some u->h'.get? b=some u):dh P w H h':=λa o e =>
 (x a o e).nK (λb u _ q=>k b u q) (λ_ q=>q) λ_ _ q=>q
theorem dh.laid (x:dh P w H h)(k:∀b u,h.get? b=some u->h'.get? b=some u)(hp:h.objs.size<=a)(new:b8 P w (upd H a o) h' a o):dh P w (upd H a o) h':=λb u e=>by
 have hn:=x.fresh hp
 by_cases hb:b=a
 . subst hb;rw[aR]at e;cases e;exact new
 . rw[aL hb]at e
   exact(x b u e).nK (λc v _ q=>k c v q) (λc q=>by rw[aL (bh q hn)];exact q) λc xs q=>by rw[aL (bh q hn)];exact q
end
def Rd (H:Hp)(a:Addr)(u:HO):Prop:=H a=some u \/ ∃o,H a=some (.jS o u)
theorem Rd.ok {P:Program}{w:World}{H:Hp}{h:Heap}{a:Addr}{u:HO}(r:Rd H a u)(x:dh P w H h):b8 P w H h a u:=by
 rcases r with r|⟨o,r⟩
 . exact x a u r
 . obtain⟨_,q⟩:=x a _ r
   exact q
noncomputable def BX:Option HO->Prop
 |some (.lst _)=>True
 |some (.dK _)=>True
 |some (.dT _)=>True
 |some (.set _ _)=>True
 |some (.ins _ _ _)=>True
 |some (.ext _)=>True
 |_=>False
section
variable {P:Program}{w:World}{H:Hp}{h h':Heap}{x e:Addr}{o':HO}
theorem dh.write (ok:dh P w H h)(mu:BX (H x))(he:e=x\/H e=some (.own x))(k:∀b u,b≠e->h.get? b=some u->h'.get? b=some u)(uk:∃u,h'.get? e=some u)
   (new:b8 P w (upd H x o') h' x o'):dh P w (upd H x o') h':=λb u q=>by
 have FN:∀c y,H c=some (.own y)->c≠x:=λc y r z=>by subst z;rw[r]at mu;exact mu
 have M_:∀c xs,H c=some (.tup xs)->c≠x:=λc xs r z=>by subst z;rw[r]at mu;exact mu
 by_cases hb:b=x
 . subst hb;rw[aR]at q;cases q;exact new
 . rw[aL hb]at q
   by_cases qo:b=e
   . have q':H b=some (.own x):=by
       rcases he with z|z
       . exact absurd (qo.trans z) hb
       . rw[qo];exact z
     rw[q]at q';cases q'
     obtain⟨v,hv⟩:=uk
     exact⟨v,by rw[qo];exact hv⟩
   . refine(ok b u q).nK (λc v hc r=>k c v ?_ r) (λc r=>by rw[aL (FN c b r)];exact r) λc xs r=>by rw[aL (M_ c xs r)];exact r
     rcases hc with rfl|hc
     . exact qo
     . rintro rfl
       rcases he with z|z
       . exact FN c b hc z
       . rw[hc]at z;cases z;exact hb rfl
end
structure Un (fs ex:List Addr)(H H':Hp)(h h':Heap):Prop where
 keep:∀b o,h.get? b=some o->H b=none->b ∉ fs->b ∉ ex->h'.get? b=some o
 slot:∀b o,h.get? b=some o->H b=none->b∈fs->b ∉ ex->∃sl,h'.get? b=some { o with slots:=sl }
 free:∀b o,h.get? b=some o->H b=none->b ∉ ex->H' b=none
 there:∀b o,h.get? b=some o->b ∉ ex->∃o',h'.get? b=some o'
 jT:∀b xs,H b=some (.tup xs)->H' b=some (.tup xs)
 jb:∀b o u,H b=some (.jS o u)->H' b=some (.jS o u)
 jU:∀b ps,H b=some (.aG ps)->∃more,H' b=some (.aG (ps++more))
section
variable {fs Td ex Te:List Addr}{H H1 H2:Hp}{h h1 h2 h':Heap}{a x e:Addr}{o:HO}
theorem Un.any (u:Un fs ex H H1 h h1){b:Addr}{ob:Obj}(q:h.get? b=some ob)(n:H b=none)(hx:b ∉ ex):∃sl,h1.get? b=some { ob with slots:=sl }:=by
 by_cases hb:b∈fs
 . exact u.slot b ob q n hb hx
 . exact⟨ob.slots,u.keep b ob q n hb hx⟩
theorem Un.kept (k:∀b u,h.get? b=some u->h'.get? b=some u):Un fs ex H H h h' :=
 ⟨λb ob q _ _ _=>k b ob q,λb ob q _ _ _=>⟨ob.slots,k b ob q⟩,λ_ _ _ n _=>n,λb ob q _=>⟨ob,k b ob q⟩,λ_ _ q=>q,λ_ _ _ q=>q,λ_ ps q=>⟨#[],by rw[q];simp⟩⟩
theorem Un.refl:Un fs ex H H h h:=Un.kept λ_ _ q=>q
theorem Un.laid (k:∀b u,h.get? b=some u->h'.get? b=some u)(hp:h.objs.size<=a)(hn:H a=none):Un fs ex H (upd H a o) h h' where
 keep:=λb u q _ _ _=>k b u q
 slot:=λb u q _ _ _=>⟨u.slots,k b u q⟩
 free:=λb u q n _=>by rw[aL (Nat.ne_of_lt (Nat.lt_of_lt_of_le (Heap.lt_size q) hp))];exact n
 there:=λb u q _=>⟨u,k b u q⟩
 jT:=λb xs q=>by rw[aL (bh q hn)];exact q
 jb:=λb u xs q=>by rw[aL (bh q hn)];exact q
 jU:=λb ps q=>⟨#[],by rw[aL (bh q hn),q];simp⟩
theorem Un.write (mu:BX (H x))(he:e=x\/H e=some (.own x))(k:∀b u,b≠e->h.get? b=some u->h'.get? b=some u)(uk:∃u,h'.get? e=some u):Un fs ex H (upd H x o) h h':=by
 have hx:∀b,H b=none->b≠x:=λb n z=>by subst z;rw[n]at mu;exact mu
 have hb:∀b,H b=none->b≠e:=λb n z=>by
   subst z
   rcases he with r|r
   . exact hx b n r
   . rw[n]at r;cases r
 have hm:∀b u,H b=some u->¬BX (some u)->b≠x:=λb u q nm z=>by subst z;rw[q]at mu;exact nm mu
 refine⟨λb u q n _ _=>k b u (hb b n) q,λb u q n _ _=>⟨u.slots,k b u (hb b n) q⟩,λb u q n _=>by rw[aL (hx b n)];exact n,λb u q _=>?_,
   λb xs q=>by rw[aL (hm b _ q λz=>z)];exact q,λb u xs q=>by rw[aL (hm b _ q λz=>z)];exact q,λb ps q=>⟨#[],by rw[aL (hm b _ q λz=>z),q];simp⟩⟩
 by_cases qo:b=e
 . subst qo;exact uk
 . exact⟨u,k b u qo q⟩
end
noncomputable def oC (h:Heap)(H:Hp):List Addr:=(List.range h.objs.size).filter λa=>(H a).isSome
noncomputable def jc (h:Heap)(H:Hp):Heap:=PySem.W.hideAll h (oC h H)
theorem xC (h:Heap)(H:Hp):(jc h H).objs.size=h.objs.size:=PySem.W.hideAll_size _ _
theorem As {h:Heap}{H:Hp}{b:Addr}{o:Obj}(e:h.get? b=some o)(n:H b=none):(jc h H).get? b=some o :=
 PySem.W.hideAll_get _ e λhm=>by
  have q:(H b).isSome=true:=(List.mem_filter.mp hm).2
  rw[n]at q;simp at q
theorem Dt {h:Heap}{H:Hp}{b:Addr}{o:Obj}(e:(jc h H).get? b=some o):h.get? b=some o/\H b=none:=by
 have e':h.get? b=some o:=PySem.W.of_hideAll (oC h H) e
 refine⟨e',?_⟩
 cases q:H b with
 |none=>rfl
 |some x =>
  have hm:b∈oC h H:=List.mem_filter.mpr ⟨List.mem_range.mpr (Heap.lt_size e'),by simp[q]⟩
  have z:(jc h H).get? b=none:=PySem.W.hideAll_none (oC h H) hm
  rw[z]at e;cases e
noncomputable def Du (g h:Heap)(L:Addr):List (Addr×Obj):=(List.range h.objs.size).filterMap λa=>if a=L\/(g.get? a).isSome=true then none else(h.get? a).map λo=>(a,o)
noncomputable def rest (g h:Heap)(L d:Addr):List (Addr×Obj):=(Du g h L).filter λp=>decide (p.1≠d)
structure Mod (K:PySem.W.Frag)(mg:Str->Option Value)(base:Heap):Prop where
 FP:K.In base
 glob:base.Ns mainGlobals mg
 blt:∃mb,base.Ns builtinsNs mb /\ ∀x:Str,x ≠ "__name__"->mb x=bootBuiltins x
 nolimit:base.NoLimit
structure Cx where
 prog:Program
 w:World
 K:PySem.W.Frag
 mg:Str->Option Value
 base:Heap
 A:Around
 N:List Str
 s₀:Shared
 H₀:Hp
 env:Env
 outer:List Env
 stack:List Env
 ex:List Addr
 fn:Str->Bool
 calm:Bool
 pn:List (Addr×Obj)
 xe:Value->Shared->Prop
noncomputable def jE (l:List Env):List Addr:=l.filterMap (·.frame)
noncomputable abbrev Cx.fs (X:Cx):List Addr:=jE X.outer
def FQ (sc:Scope)(x:Str):Prop:=sc.names.lookup x=some .local\/sc.names.lookup x=some .cell\/sc.names.lookup x=some .free
def Loc (sc:Scope)(x:Str):Prop:=sc.names.lookup x=some .local\/sc.names.lookup x=some .cell
noncomputable def Look (env:Env)(h:Heap)(m:Str->Option Value)(x:Str)(u:Value):Prop :=
 (env.kindOf x=some .local/\m x=some u)\/((env.kindOf x=some .cell\/env.kindOf x=some .free) /\ ∃c,env.cells.lookup x=some c/\h.IsCell c (some u))
structure Cx.Ok (X:Cx):Prop where
 mod:Mod X.K X.mg X.base
 kind:X.env.scope.kind = .function
 glob:X.env.globals=mainGlobals
 blt:X.env.builtins=builtinsNs
 above:X.s₀.heap.objs.size<=X.env.locals
 inj:∀x y c,X.env.cells.lookup x=some c->X.env.cells.lookup y=some c->x=y
 has:∀x,(X.env.kindOf x=some .cell\/X.env.kindOf x=some .free)->∃c,X.env.cells.lookup x=some c
 xD:∀x c,X.fn x=true->X.env.cells.lookup x=some c->X.s₀.heap.objs.size<=c
 hd:X.calm=true->X.A.handled=none
 frames:X.A.frames=some X.stack
 qp:X.stack=X.outer\/(X.stack=X.env::X.outer/\X.env.frame=some X.env.locals)
 FR:∀b∈X.ex,b≠X.env.locals /\ ∀x c,X.env.cells.lookup x=some c->c≠b
 bs:∀b o,X.base.get? b=some o->X.s₀.heap.get? b=some o/\X.H₀ b=none
 oD:X.base.objs.size<=X.s₀.heap.objs.size
 qq:∀b o,X.base.get? b=some o->b ∉ X.ex
 qr:∀b∈X.ex,b ∉ X.fs
 gC:X.s₀.heap.FunFrames X.base X.outer
 um:∀b∈X.fs,X.H₀ b=none
structure Inv (X:Cx)(pins:List (Addr×Obj))(σ:List (Option V))(H:Hp)(s:Shared):Prop where
 ok:X.Ok
 os:s.os=X.s₀.os
 bare:AllBare s.gens
 base:Un X.fs X.ex X.H₀ H X.s₀.heap s.heap
 loc:∃m,s.heap.Ns X.env.locals m /\ ∀(i:Nat) (x:Str) (v:V),X.N[i]? = some x->σ[i]? = some (some v)->FQ X.env.scope x->∃u,RelV v u/\Look X.env s.heap m x u
 cell:∀x c,X.env.cells.lookup x=some c->∃v,s.heap.IsCell c v
 free:H X.env.locals=none
 fF:∀x c,X.env.cells.lookup x=some c->H c=none
 pin:∀p∈X.pn++pins,s.heap.get? p.1=some p.2/\H p.1=none/\p.1≠X.env.locals/\p.1 ∉ X.fs /\ ∀v,p.2.data ≠ .cell v
 aV:dh X.prog X.w H s.heap
 len:σ.length=X.N.length
section
variable {X:Cx}{pins:List (Addr×Obj)}{σ:List (Option V)}{H H':Hp}{s:Shared}{h':Heap}
theorem Cx.Ok.Na (ok:X.Ok){b:Addr}{o:Obj}(e:X.base.get? b=some o):b ∉ X.fs:=λhb=>by
 have:=(ok.gC.mem hb).1
 rw[e]at this;cases this
theorem Inv.bs (I:Inv X pins σ H s):∀b o,X.base.get? b=some o->s.heap.get? b=some o/\H b=none:=λb o e =>
 ⟨I.base.keep b o (I.ok.bs b o e).1 (I.ok.bs b o e).2 (I.ok.Na e) (I.ok.qq b o e),I.base.free b o (I.ok.bs b o e).1 (I.ok.bs b o e).2 (I.ok.qq b o e)⟩
theorem Inv.bk (I:Inv X pins σ H s):∀b o,X.base.get? b=some o->s.heap.get? b=some o:=λb o e=>(I.bs b o e).1
theorem Inv.mod (I:Inv X pins σ H s):Mod X.K X.mg X.base:=I.ok.mod
theorem Inv.dB (I:Inv X pins σ H s):X.K.In s.heap:=I.ok.mod.FP.keeps I.bk
theorem Inv.lt (I:Inv X pins σ H s):X.env.locals<s.heap.objs.size:=let⟨_,hn,_⟩:=I.loc;hn.lt
theorem Inv.sz (I:Inv X pins σ H s):X.s₀.heap.objs.size<=s.heap.objs.size:=Nat.le_trans I.ok.above (Nat.le_of_lt I.lt)
theorem Inv.Nb (I:Inv X pins σ H s){a:Addr}(h:s.heap.objs.size<=a):a ∉ X.fs:=λhb=>by
 obtain⟨_,o,ho,_⟩:=I.ok.gC.mem hb
 exact absurd (Nat.lt_of_lt_of_le (Heap.lt_size ho) (Nat.le_trans I.sz h)) (Nat.lt_irrefl _)
theorem Inv.qt (I:Inv X pins σ H s):∀x c,X.env.cells.lookup x=some c->c≠X.env.locals:=λx c e z=>by
 obtain⟨v,o,ho,hd⟩:=I.cell x c e
 obtain⟨m,⟨o',es,ep,qu,Qc,_⟩,_⟩:=I.loc
 rw[z,qu]at ho;cases ho;rw[Qc]at hd;cases hd
theorem Inv.gC (I:Inv X pins σ H s):s.heap.FunFrames X.base X.outer:=by
 have all:∀(l:List Env),(∀b∈jE l,b∈X.fs)->X.s₀.heap.FunFrames X.base l->s.heap.FunFrames X.base l:=by
  intro l
  induction l with
  |nil=>intro _ _;trivial
  |cons env r ih =>
   intro hs hl
   obtain⟨hk,⟨L,o,hf,hn,ho,hd⟩,hr⟩:=hl
   have hL:L∈X.fs:=hs L (by unfold jE;rw[List.filterMap_cons,hf];exact List.mem_cons_self)
   obtain⟨sl,e⟩:=I.base.slot L o ho (I.ok.um L hL) hL λz=>I.ok.qr L z hL
   exact⟨hk,⟨L,_,hf,hn,e,hd⟩,ih (λb hb=>hs b (by unfold jE;rw[List.filterMap_cons,hf];exact List.mem_cons_of_mem _ hb)) hr⟩
 exact all X.outer (λ_ hb=>hb) I.ok.gC
theorem Inv.stack (I:Inv X pins σ H s):s.heap.FunFrames X.base X.stack:=by
 rcases I.ok.qp with e|⟨e,hf⟩
 . rw[e];exact I.gC
 . rw[e]
   obtain⟨m,hn,_⟩:=I.loc
   refine .cons (by rw[I.ok.kind];decide) hf hn ?_ I.gC
   exact Heap.get?_none_of_le (Nat.le_trans I.ok.oD I.ok.above)
theorem Inv.qv (I:Inv X pins σ H s):∀b∈jE X.stack,b∈X.env.locals::X.fs:=λb hb=>by
 rcases I.ok.qp with e|⟨e,hf⟩
 . rw[e]at hb;exact List.mem_cons_of_mem _ hb
 . rw[e]at hb
   unfold jE at hb
   rw[List.filterMap_cons,hf]at hb
   exact hb
theorem Inv.uo (I:Inv X pins σ H s):∀b∈jE X.stack,H b=none:=λb hb=>by
 rcases List.mem_cons.mp (I.qv b hb)with e|hb
 . rw[e];exact I.free
 . obtain⟨_,o,ho,_⟩:=I.ok.gC.mem hb
   exact I.base.free b o ho (I.ok.um b hb) λz=>I.ok.qr b z hb
theorem Inv.step {g':Array GenState}{t':Nat}{d':Drawn}{ch:List Addr}(I:Inv X pins σ H s)
   (lq:∀b∈ch,(b∈X.ex\/X.s₀.heap.objs.size<=b)/\b≠X.env.locals/\(∀x c,X.env.cells.lookup x=some c->c≠b) /\ ∀p∈X.pn++pins,p.1≠b)
   (keep:∀b o,b≠X.env.locals->b ∉ X.fs->b ∉ ch->s.heap.get? b=some o->H b=none->h'.get? b=some o)
   (slot:∀b o,b≠X.env.locals->b∈X.fs->b ∉ ch->s.heap.get? b=some o->H b=none->∃sl,h'.get? b=some { o with slots:=sl }) (free:∀b o,b ∉ ch->s.heap.get? b=some o->H b=none->H' b=none)
   (there:∀b o,b ∉ ch->s.heap.get? b=some o->∃o',h'.get? b=some o')
   (jT:∀b xs,H b=some (.tup xs)->H' b=some (.tup xs)) (jb:∀b o u,H b=some (.jS o u)->H' b=some (.jS o u)) (jU:∀b ps,H b=some (.aG ps)->∃more,H' b=some (.aG (ps++more)))
   (ns:∀m,s.heap.Ns X.env.locals m->h'.Ns X.env.locals m) (aV:dh X.prog X.w H' h') (hg:AllBare g'):
   Inv X pins σ H' { s with heap:=h',gens:=g',drawn:=d',toks:=t' }:=by
 have LI:∀b o,X.s₀.heap.get? b=some o->b≠X.env.locals:=λb o e=>Nat.ne_of_lt (Nat.lt_of_lt_of_le (Heap.lt_size e) I.ok.above)
 have BY:∀b o,X.s₀.heap.get? b=some o->b ∉ X.ex->b ∉ ch:=λb o e hx hb=>by
   rcases (lq b hb).1 with z|z
   . exact hx z
   . exact absurd (Nat.lt_of_lt_of_le (Heap.lt_size e) z) (Nat.lt_irrefl _)
 have cellK:∀x c,X.env.cells.lookup x=some c->∀v,s.heap.IsCell c v->h'.IsCell c v:=λx c e v ⟨o,ho,hd⟩=>by
   have xF:c ∉ ch:=λz=>(lq c z).2.2.1 x c e rfl
   by_cases hc:c∈X.fs
   . obtain⟨sl,q⟩:=slot c o (I.qt x c e) hc xF ho (I.fF x c e)
     exact⟨_,q,hd⟩
   . exact⟨o,keep c o (I.qt x c e) hc xF ho (I.fF x c e),hd⟩
 refine⟨I.ok,I.os,hg,⟨λb o e n hb hx=>?_,λb o e n hb hx=>?_,λb o e n hx=>?_,λb o e hx=>?_,λb xs e=>jT b xs (I.base.jT b xs e),λb o xs e=>jb b o xs (I.base.jb b o xs e),λb ps e=>?_⟩,?_,λx c e=>?_,?_,λx c e=>?_,λp hp=>?_,aV,I.len⟩
 . exact keep b o (LI b o e) hb (BY b o e hx) (I.base.keep b o e n hb hx) (I.base.free b o e n hx)
 . obtain⟨sl,e1⟩:=I.base.slot b o e n hb hx
   obtain⟨gE,e2⟩:=slot b _ (LI b o e) hb (BY b o e hx) e1 (I.base.free b o e n hx)
   exact⟨gE,e2⟩
 . obtain⟨o',e1⟩:=I.base.there b o e hx
   exact free b o' (BY b o e hx) e1 (I.base.free b o e n hx)
 . obtain⟨o',e1⟩:=I.base.there b o e hx
   exact there b o' (BY b o e hx) e1
 . obtain⟨m1,e1⟩:=I.base.jU b ps e
   obtain⟨m2,e2⟩:=jU b _ e1
   exact⟨m1++m2,by rw[e2,Array.append_assoc]⟩
 . obtain⟨m,hn,hl⟩:=I.loc
   refine⟨m,ns m hn,λi x v e1 e2 e3=>?_⟩
   obtain⟨u,r,l⟩:=hl i x v e1 e2 e3
   refine⟨u,r,?_⟩
   rcases l with l|⟨k,c,e,z⟩
   . exact .inl l
   . exact .inr ⟨k,c,e,cellK x c e _ z⟩
 . obtain⟨v,z⟩:=I.cell x c e
   exact⟨v,cellK x c e v z⟩
 . obtain⟨m,⟨o,_,_,ho,_⟩,_⟩:=I.loc
   exact free _ o (λz=>(lq _ z).2.1 rfl) ho I.free
 . obtain⟨v,o,ho,hd⟩:=I.cell x c e
   exact free c o (λz=>(lq c z).2.2.1 x c e rfl) ho (I.fF x c e)
 . obtain⟨e,n,ne,nf,d⟩:=I.pin p hp
   have xF:p.1 ∉ ch:=λz=>(lq p.1 z).2.2.2 p hp rfl
   exact⟨keep p.1 p.2 ne nf xF e n,free p.1 p.2 xF e n,ne,nf,d⟩
theorem Inv.un {t':Nat}(I:Inv X pins σ H s)(u:Un X.fs [] H H' s.heap h')(aV:dh X.prog X.w H' h'):Inv X pins σ H' { s with heap:=h',toks:=t' }:=by
 obtain⟨m,⟨o,es,ep,ho,r⟩,_⟩:=id I.loc
 obtain⟨sl,hL⟩:=u.any ho I.free (by simp)
 exact I.step (g':=s.gens) (d':=s.drawn) (ch:=[]) (λ_ z=>nomatch z) (λb o _ hb _ e n=>u.keep b o e n hb (by simp)) (λb o _ hb _ e n=>u.slot b o e n hb (by simp)) (λb o _ e n=>u.free b o e n (by simp)) (λb o _ e=>u.there b o e (by simp)) u.jT u.jb u.jU (λm' hm=>by
  obtain⟨o',aW,xG,qu,r'⟩:=hm
  rw[ho]at qu;cases qu
  exact⟨_,aW,xG,hL,r'⟩) aV I.bare
theorem Inv.call {g':Array GenState}{t':Nat}{d':Drawn}{ch:List Addr}(I:Inv X pins σ H s)(u:Un (jE X.stack) ch H H' s.heap h')(aV:dh X.prog X.w H' h')(hg:AllBare g')
  (lq:∀b∈ch,(b∈X.ex\/X.s₀.heap.objs.size<=b)/\b≠X.env.locals/\(∀x c,X.env.cells.lookup x=some c->c≠b) /\ ∀p∈X.pn++pins,p.1≠b):
  Inv X pins σ H' { s with heap:=h',gens:=g',drawn:=d',toks:=t' }:=by
 obtain⟨m,⟨o,es,ep,ho,r⟩,_⟩:=id I.loc
 obtain⟨sl,hL⟩:=u.any ho I.free λz=>(lq _ z).2.1 rfl
 exact I.step (ch:=ch) lq (λb o hL hb hc e n=>u.keep b o e n (λz=>(List.mem_cons.mp (I.qv b z)).elim hL hb) hc) (λb o _ _ hc e n=>u.any e n hc) (λb o hc e n=>u.free b o e n hc) (λb o hc e=>u.there b o e hc) u.jT u.jb u.jU (λm' hm=>by
  obtain⟨o',aW,xG,qu,r'⟩:=hm
  rw[ho]at qu;cases qu
  exact⟨_,aW,xG,hL,r'⟩) aV hg
theorem Inv.turned {t':Nat}{it:Addr}(I:Inv X pins σ H s)(k:∀b o,b≠it->s.heap.get? b=some o->h'.get? b=some o)(hn:H it=none)(hL:it≠X.env.locals)
   (h1:it∈X.ex\/X.s₀.heap.objs.size<=it) (h2:∀x c,X.env.cells.lookup x=some c->c≠it) (h3:∀p∈X.pn++pins,p.1≠it):Inv X pins σ H { s with heap:=h',toks:=t' }:=by
 have LJ:∀b u,H b=some u->b≠it:=λb u e z=>by rw[z,hn]at e;cases e
 refine I.step (g':=s.gens) (d':=s.drawn) (ch:=[it]) (λb hb=>?_) (λb o _ _ hc e _=>k b o (λz=>hc (by simp[z])) e) (λb o _ _ hc e _=>⟨o.slots,k b o (λz=>hc (by simp[z])) e⟩) (λ_ _ _ _ n=>n)
   (λb o hc e=>⟨o,k b o (λz=>hc (by simp[z])) e⟩) (λ_ _ e=>e) (λ_ _ _ e=>e) (λb ps e=>⟨#[],by rw[e];simp⟩) (λm hm=>?_) (λb u e=>?_) I.bare
 . have e:b=it:=by simpa using hb
   subst e
   exact⟨h1,hL,h2,h3⟩
 . obtain⟨o,es,ep,ho,r⟩:=hm
   exact⟨o,es,ep,k _ o (Ne.symm hL) ho,r⟩
 . refine(I.aV b u e).nK (λc v hc q=>k c v ?_ q) (λ_ q=>q) λ_ _ q=>q
   rcases hc with z|z
   . rw[z];exact LJ b u e
   . exact LJ c _ z
theorem Inv.tok (I:Inv X pins σ H s)(t:Nat):Inv X pins σ H { s with toks:=t }:=I.un (h':=s.heap) (t':=t) Un.refl I.aV
theorem Inv.kept {t':Nat}(I:Inv X pins σ H s)(k:∀b u,s.heap.get? b=some u->h'.get? b=some u):Inv X pins σ H { s with heap:=h',toks:=t' }:=I.un (Un.kept k) (I.aV.kept k)
theorem Inv.laid {a:Addr}{o:HO}{t':Nat}(I:Inv X pins σ H s)(k:∀b u,s.heap.get? b=some u->h'.get? b=some u)(hp:s.heap.objs.size<=a)(new:b8 X.prog X.w (upd H a o) h' a o):
 Inv X pins σ (upd H a o) { s with heap:=h',toks:=t' }:=I.un (Un.laid k hp (I.aV.fresh hp)) (I.aV.laid k hp new)
theorem Inv.write {x e:Addr}{o:HO}{t':Nat}(I:Inv X pins σ H s)(mu:BX (H x))(he:e=x\/H e=some (.own x))(k:∀b u,b≠e->s.heap.get? b=some u->h'.get? b=some u)(uk:∃u,h'.get? e=some u)
 (new:b8 X.prog X.w (upd H x o) h' x o):Inv X pins σ (upd H x o) { s with heap:=h',toks:=t' }:=I.un (Un.write mu he k uk) (I.aV.write mu he k uk new)
theorem Inv.uq {BZ:List (Addr×Obj)}(I:Inv X pins σ H s)(h:∀p∈BZ,s.heap.get? p.1=some p.2/\H p.1=none/\p.1≠X.env.locals/\p.1 ∉ X.fs /\ ∀v,p.2.data ≠ .cell v):Inv X BZ σ H s :=
 ⟨I.ok,I.os,I.bare,I.base,I.loc,I.cell,I.free,I.fF,λp hp=>(List.mem_append.mp hp).elim (λz=>I.pin p (List.mem_append_left _ z)) (h p),I.aV,I.len⟩
theorem qw {N:List Str}(hN:N.Nodup){i j:Nat}{x:Str}(a:N[i]? = some x)(b:N[j]? = some x):i=j:=by
 obtain⟨h1,e1⟩:=List.getElem?_eq_some_iff.mp a
 obtain⟨h2,e2⟩:=List.getElem?_eq_some_iff.mp b
 exact(List.getElem_inj hN).mp (e1.trans e2.symm)
theorem oE {M:Model}{A:Around}{E:Value->Shared->Prop}{i:Nat}{x:Str}{v:V}{u:Value}{Q:Unit->Shared->Prop}(I:Inv X pins σ H s)(hN:X.N.Nodup)(hi:X.N[i]? = some x)(hx:Loc X.env.scope x)(r:RelV v u)
   (h:∀s',Inv X pins (σ.set i (some v)) H s'->(∃a,Heap.SameBut a s.heap s'.heap/\(a=X.env.locals\/X.env.cells.lookup x=some a))->Q () s') (hf:X.fn x=true\/X.env.scope.names.lookup x=some .local:=by first|exact .inl rfl|exact .inr rfl|assumption):wpAny M A (storeName X.env x u) Q E s:=by
 obtain⟨m,hn,hl⟩:=id I.loc
 have Nc:(X.env.scope.kind == .class||(X.env.scope.kind == .module&&X.env.locals != X.env.globals))=false:=by rw[I.ok.kind];rfl
 have hiσ:i < σ.length:=by rw[I.len];exact(List.getElem?_eq_some_iff.mp hi).1
 have qt:=I.qt
 have tracked:∀{a:Addr} {h':Heap},(∃o,s.heap.get? a=some o/\H a=none)->Heap.SameBut a s.heap h'->dh X.prog X.w H h':=fun {a h'} ha hs b ob e=>by
   obtain⟨_,_,mw⟩:=ha
   refine(I.aV b ob e).nK (λc w' hc q=>(hs.2 c ?_).trans q) (λ_ q=>q) λ_ _ q=>q
   rintro rfl
   rcases hc with rfl|hc
   . rw[mw]at e;cases e
   . rw[mw]at hc;cases hc
 rcases hx with hk|hk
 . refine wpAny_storeName_local hk hn (λh' Qd hs=>?_) Nc
   obtain⟨oL,_,_,jF,_⟩:=id hn
   refine h _ ⟨I.ok,I.os,I.bare,⟨λb o e n hb hx=>?_,λb o e n hb hx=>?_,I.base.free,λb o e hx=>?_,I.base.jT,I.base.jb,I.base.jU⟩,⟨_,Qd,λj y v' e1 e2 e3=>?_⟩,λy c e=>?_,I.free,I.fF,λp hp=>?_,tracked ⟨oL,jF,I.free⟩ hs,by simpa using I.len⟩ ⟨_,hs,.inl rfl⟩
   . exact(hs.2 b (Nat.ne_of_lt (Nat.lt_of_lt_of_le (Heap.lt_size e) I.ok.above))).trans (I.base.keep b o e n hb hx)
   . obtain⟨sl,e1⟩:=I.base.slot b o e n hb hx
     exact⟨sl,(hs.2 b (Nat.ne_of_lt (Nat.lt_of_lt_of_le (Heap.lt_size e) I.ok.above))).trans e1⟩
   . obtain⟨o',e1⟩:=I.base.there b o e hx
     exact⟨o',(hs.2 b (Nat.ne_of_lt (Nat.lt_of_lt_of_le (Heap.lt_size e) I.ok.above))).trans e1⟩
   . by_cases hj:j=i
     . subst hj
       rw[hi]at e1;cases e1
       rw[List.getElem?_set_self hiσ]at e2
       cases e2
       exact⟨u,r,.inl ⟨hk,by simp⟩⟩
     . rw[List.getElem?_set_ne (Ne.symm hj)]at e2
       obtain⟨u',r',q⟩:=hl j y v' e1 e2 e3
       refine⟨u',r',?_⟩
       rcases q with⟨k,e⟩|⟨k,c,e,z⟩
       . refine .inl ⟨k,?_⟩
         have:y≠x:=λe=>hj (qw hN e1 (e ▸ hi))
         simp[this,e]
       . exact .inr ⟨k,c,e,z.sameBut hs (qt y c e)⟩
   . obtain⟨w',z⟩:=I.cell y c e
     exact⟨w',z.sameBut hs (qt y c e)⟩
   . obtain⟨e,n,ne,nf,d⟩:=I.pin p hp
     exact⟨(hs.2 p.1 ne).trans e,n,ne,nf,d⟩
 . have FU:X.fn x=true:=by
     rcases hf with z|z
     . exact z
     . rw[z]at hk;cases hk
   obtain⟨c,hc⟩:=I.ok.has x (.inl hk)
   obtain⟨w',z⟩:=I.cell x c hc
   refine wpAny_storeName_cell I.ok.kind hk hc z (λh' B0 hs=>?_)
   obtain⟨oc,LK,Nd⟩:=id z
   refine h { s with heap:=h' } ⟨I.ok,I.os,I.bare,⟨λb o e n hb hx=>?_,λb o e n hb hx=>?_,I.base.free,λb o e hx=>?_,I.base.jT,I.base.jb,I.base.jU⟩,⟨m,hn.sameBut hs (Ne.symm (qt x c hc)),λj y v' e1 e2 e3=>?_⟩,λy c' e=>?_,I.free,I.fF,λp hp=>?_,tracked ⟨oc,LK,I.fF x c hc⟩ hs,by simpa using I.len⟩ ⟨c,hs,.inr hc⟩
   . exact(hs.2 b (Nat.ne_of_lt (Nat.lt_of_lt_of_le (Heap.lt_size e) (I.ok.xD x c FU hc)))).trans (I.base.keep b o e n hb hx)
   . obtain⟨sl,e1⟩:=I.base.slot b o e n hb hx
     exact⟨sl,(hs.2 b (Nat.ne_of_lt (Nat.lt_of_lt_of_le (Heap.lt_size e) (I.ok.xD x c FU hc)))).trans e1⟩
   . obtain⟨o',e1⟩:=I.base.there b o e hx
     exact⟨o',(hs.2 b (Nat.ne_of_lt (Nat.lt_of_lt_of_le (Heap.lt_size e) (I.ok.xD x c FU hc)))).trans e1⟩
   . by_cases hj:j=i
     . subst hj
       rw[hi]at e1;cases e1
       rw[List.getElem?_set_self hiσ]at e2
       cases e2
       exact⟨u,r,.inr ⟨.inl hk,c,hc,B0⟩⟩
     . rw[List.getElem?_set_ne (Ne.symm hj)]at e2
       obtain⟨u',r',q⟩:=hl j y v' e1 e2 e3
       refine⟨u',r',?_⟩
       rcases q with q|⟨k,c',e,z'⟩
       . exact .inl q
       . refine .inr ⟨k,c',e,z'.sameBut hs ?_⟩
         rintro rfl
         exact hj (qw hN e1 (I.ok.inj _ _ _ e hc ▸ hi))
   . by_cases LL:c'=c
     . subst LL;exact⟨_,B0⟩
     . obtain⟨w2,z2⟩:=I.cell y c' e
       exact⟨w2,z2.sameBut hs LL⟩
   . obtain⟨e,n,ne,nf,d⟩:=I.pin p hp
     refine⟨(hs.2 p.1 ?_).trans e,n,ne,nf,d⟩
     intro q
     rw[q,LK]at e
     have q':oc=p.2:=Option.some.inj e
     exact d w' (by rw[<- q'];exact Nd)
theorem jd {M:Model}{A:Around}{E:Value->Shared->Prop}{i:Nat}{x:Str}{v:V}{u:Value}{Q:Unit->Shared->Prop}(I:Inv X pins σ H s)(hN:X.N.Nodup)(hi:X.N[i]? = some x)(hx:Loc X.env.scope x)(r:RelV v u)
  (h:∀s',Inv X pins (σ.set i (some v)) H s'->Q () s') (hf:X.fn x=true\/X.env.scope.names.lookup x=some .local:=by first|exact .inl rfl|exact .inr rfl|assumption):wpAny M A (storeName X.env x u) Q E s :=
 oE I hN hi hx r (λs' I' _=>h s' I') hf
theorem Inv.Ki {s':Shared}{ch:List Addr}(I:Inv X pins σ H s)(ho:s'.os=s.os)(u:Un (jE X.stack) ch H H' s.heap s'.heap)(aV:dh X.prog X.w H' s'.heap)(hg:AllBare s'.gens)
  (lq:∀b∈ch,(b∈X.ex\/X.s₀.heap.objs.size<=b)/\b≠X.env.locals/\(∀x c,X.env.cells.lookup x=some c->c≠b) /\ ∀p∈X.pn++pins,p.1≠b):Inv X pins σ H' s':=by
 obtain⟨h',g',d',t',o'⟩:=s'
 have e:o'=s.os:=ho
 subst e
 exact I.call (g':=g') (t':=t') (d':=d') u aV hg lq
end
abbrev XK:=Value->Option Addr->Hp->Prop
abbrev St:=List (Option V)
abbrev VK:=V->Hp->Prop
abbrev TE:=St->Hp->VK->Prop
abbrev TT:=St->Hp->(Bool->Hp->Prop)->Prop
abbrev TA:=St->Hp->(List V->Hp->Prop)->Prop
structure Ends where
 nx:St->Hp->Prop
 rt:VK
 bk:St->Hp->Prop:=λ_ _=>False
 ct:St->Hp->Prop:=λ_ _=>False
abbrev TS:=Ends->St->Hp->Prop
def EP (X:Cx)(pins:List (Addr×Obj))(σ:St)(Q:VK)(u:Value)(s':Shared):Prop:=∃v H',Inv X pins σ H' s'/\RelV v u/\Q v H'
def TP (X:Cx)(pins:List (Addr×Obj))(σ:St)(Q:Bool->Hp->Prop)(b:Bool)(s':Shared):Prop:=∃H',Inv X pins σ H' s'/\Q b H'
def AP (X:Cx)(pins:List (Addr×Obj))(σ:St)(Q:List V->Hp->Prop)(us:List Value)(s':Shared):Prop:=∃vs H',Inv X pins σ H' s'/\Vals vs us/\Q vs H'
noncomputable def SP (X:Cx)(pins:List (Addr×Obj))(D:Ends)(f:Flow)(s':Shared):Prop :=
 match f with
 |.next=>∃σ' H',Inv X pins σ' H' s'/\D.nx σ' H'
 |.brk=>∃σ' H',Inv X pins σ' H' s'/\D.bk σ' H'
 |.cont=>∃σ' H',Inv X pins σ' H' s'/\D.ct σ' H'
 |.ret u=>∃v σ' H',Inv X pins σ' H' s'/\RelV v u/\D.rt v H'
noncomputable def PE (X:Cx)(e:Expr)(t:TE):Prop :=
 ∀(pins:List (Addr×Obj)) (s:Shared) (σ:St) (H:Hp) (Q:VK),Inv X pins σ H s->t σ H Q->wpAny (model X.prog X.w) X.A (eval e X.env) (EP X pins σ Q) X.xe s
noncomputable def PT (X:Cx)(e:Expr)(t:TT):Prop :=
 ∀(pins:List (Addr×Obj)) (s:Shared) (σ:St) (H:Hp) (Q:Bool->Hp->Prop),Inv X pins σ H s->t σ H Q->wpAny (model X.prog X.w) X.A (isTrue e X.env (eval e X.env)) (TP X pins σ Q) X.xe s
noncomputable def PW (X:Cx)(e:Expr)(t:TT):Prop :=
 ∀(whole:Sem Value) (pins:List (Addr×Obj)) (s:Shared) (σ:St) (H:Hp) (Q:Bool->Hp->Prop),Inv X pins σ H s->t σ H Q->wpAny (model X.prog X.w) X.A (isTrue e X.env whole) (TP X pins σ Q) X.xe s
theorem PW.pt {X:Cx}{e:Expr}{t:TT}(h:PW X e t):PT X e t:=h _
noncomputable def PA (X:Cx)(es:List Expr)(t:TA):Prop :=
 ∀(pos:Pos) (pins:List (Addr×Obj)) (s:Shared) (σ:St) (H:Hp) (Q:List V->Hp->Prop),Inv X pins σ H s->t σ H Q->wpAny (model X.prog X.w) X.A (spliced (backTo pos (starEach es X.env))) (AP X pins σ Q) X.xe s
noncomputable def PS (X:Cx)(st:Stmt)(t:TS):Prop :=
 ∀(pins:List (Addr×Obj)) (s:Shared) (σ:St) (H:Hp) (D:Ends),Inv X pins σ H s->t D σ H->wpAny (model X.prog X.w) X.A (exec st X.env) (SP X pins D) X.xe s
noncomputable def eM (X:Cx)(st:List Stmt)(t:TS):Prop :=
 ∀(pins:List (Addr×Obj)) (s:Shared) (σ:St) (H:Hp) (D:Ends),Inv X pins σ H s->t D σ H->wpAny (model X.prog X.w) X.A (execs st X.env) (SP X pins D) X.xe s
theorem aT {α:Type}{t:Sem α}{Q Q':α->Shared->Prop}{M:Model}{A:Around}{E:Value->Shared->Prop}{s:Shared}(h:wpAny M A t Q E s)(hQ:∀a s,Q a s->Q' a s):wpAny M A t Q' E s:=wpAny_mono h hQ λ_ _ x=>x
section
variable {X:Cx}
noncomputable def Nf (i:Nat):TE:=λσ H Q=>∃v,σ[i]? = some (some v)/\Q v H
noncomputable def tC (v:V):TE:=λ_ H Q=>Q v H
theorem FV {i:Nat}{x:Str}{pos:Pos}(hN:X.N[i]? = some x)(hv:FQ X.env.scope x)(hd:(x == ("__debug__":Str))=false:=by decide)(lu:(x == ("__classdict__":Str))=false:=by decide):PE X (.Name x pos) (Nf i):=by
 intro pins s σ H Q I h
 obtain⟨v,e,h⟩:=h
 obtain⟨m,hn,hl⟩:=I.loc
 obtain⟨u,r,l⟩:=hl i x v hN e hv
 have fin:EP X pins σ Q u s:=⟨v,H,I,r,h⟩
 rcases l with⟨hk,hm⟩|⟨hk,c,hc,pO⟩
 . exact wpAny_Name (wpAny_loadName_local I.ok.kind hk hn hm fin) hd
 . rcases hk with hk|hk
   . exact wpAny_Name (wpAny_loadName_cell I.ok.kind hk hc pO fin) hd
   . exact wpAny_Name (wpAny_loadName_free I.ok.kind hk hc pO fin lu) hd
theorem FW {i j pos}:PE X (.Constant (.int i) j pos) (tC (.int i)):=λ_ _ _ H _ I h=>wpAny_Constant_int ⟨.int i,H,I.tok _,⟨_,rfl⟩,h⟩
theorem Kj {b j pos}:PE X (.Constant (.bool b) j pos) (tC (.bl b)):=λ_ _ _ H _ I h=>Constant_bool ⟨.bl b,H,I,rfl,h⟩
theorem FX {j pos}:PE X (.Constant .none j pos) (tC .ao):=λ_ _ _ H _ I h=>Constant_none ⟨.ao,H,I,rfl,h⟩
theorem FY {x j pos}:PE X (.Constant (.str x) j pos) (tC (.str x)):=λ_ _ _ H _ I h=>Calls.Constant_str ⟨.str x,H,I.tok _,⟨_,rfl⟩,h⟩
def Gl (X:Cx)(x:Str):Prop:=X.env.kindOf x=some .globalImplicit
theorem nL {E:Value->Shared->Prop}{pins:List (Addr×Obj)}{s:Shared}{σ:St}{H:Hp}{x:Str}{u:Value}{pos:Pos}{Q:Value->Shared->Prop}(I:Inv X pins σ H s)(hg:Gl X x)(hm:X.mg x=some u)(h:Q u s)
  (hd:(x == ("__debug__":Str))=false:=by decide):wpAny (model X.prog X.w) X.A (eval (.Name x pos) X.env) Q E s :=
 Calls.Name_function_global I.ok.kind hg (Calls.loadGlobal_global (by rw[I.ok.glob];exact I.mod.glob.keeps I.bk) hm h) hd
theorem gF {E:Value->Shared->Prop}{pins:List (Addr×Obj)}{s:Shared}{σ:St}{H:Hp}{x:Str}{u:Value}{pos:Pos}{Q:Value->Shared->Prop}(I:Inv X pins σ H s)(hg:Gl X x)(hm:X.mg x=none)(hv:bootBuiltins x=some u)(h:Q u s)
  (hn:x ≠ "__name__":=by decide) (hd:(x == ("__debug__":Str))=false:=by decide):wpAny (model X.prog X.w) X.A (eval (.Name x pos) X.env) Q E s:=by
 obtain⟨mb,h1,h2⟩:=I.mod.blt
 exact Calls.Name_function_global I.ok.kind hg (Calls.loadGlobal_builtin (by rw[I.ok.glob];exact I.mod.glob.keeps I.bk) hm (by rw[I.ok.blt];exact h1.keeps I.bk) ((h2 x hn).trans hv) h) hd
theorem d5 {x:Str}{v:V}{u:Value}{pos:Pos}(hg:Gl X x)(hm:X.mg x=some u)(r:RelV v u)(hd:(x == ("__debug__":Str))=false:=by decide):PE X (.Name x pos) (tC v):=
 λ_ _ _ H _ I h=>nL I hg hm ⟨v,H,I,r,h⟩ hd
theorem Dx {x:Str}{v:V}{u:Value}{pos:Pos}(hg:Gl X x)(hm:X.mg x=none)(hv:bootBuiltins x=some u)(r:RelV v u)(hn:x ≠ "__name__":=by decide)(hd:(x == ("__debug__":Str))=false:=by decide):PE X (.Name x pos) (tC v):=
 λ_ _ _ H _ I h=>gF I hg hm hv ⟨v,H,I,r,h⟩ hn hd
variable {a b:Expr}{ta tb:TE}{pos:Pos}
noncomputable def tB (t:TE):TT:=λσ H Q=>t σ H λx H1=>∃c,x = .bl c/\Q c H1
variable {tA B1:TT}{rest:List Expr}
noncomputable def Ng (t u:TT):TT:=λσ H Q=>t σ H λc H1=>if c=true then u σ H1 Q else Q false H1
noncomputable def Qe (t u:TT):TT:=λσ H Q=>t σ H λc H1=>if c=true then Q true H1 else u σ H1 Q
noncomputable def Nh (t:TT):TT:=λσ H Q=>t σ H λc H1=>Q (!c) H1
theorem Dy (ha:PT X a tA):PW X (.BoolOp .And [a] pos) tA:=by
 intro wh pins s σ H Q I h
 refine isTrue_and (aT (ha pins s σ H Q I h) λc s1 e=>?_)
 cases c with
 |true=>exact isTrue_and_nil e
 |false=>exact e
theorem FZ (ha:PT X a tA):PW X (.BoolOp .Or [a] pos) tA:=by
 intro wh pins s σ H Q I h
 refine isTrue_or (aT (ha pins s σ H Q I h) λc s1 e=>?_)
 cases c with
 |false=>exact isTrue_or_nil e
 |true=>exact e
theorem F0 (ha:PT X a tA)(hb:PW X (.BoolOp .And (b::rest) pos) B1):PW X (.BoolOp .And (a::b::rest) pos) (Ng tA B1):=by
 intro wh pins s σ H Q I h
 refine isTrue_and (aT (ha pins s σ H _ I h) λc s1 ⟨H1,I1,q1⟩=>?_)
 cases c with
 |true=>exact hb wh pins s1 σ H1 Q I1 q1
 |false=>exact⟨H1,I1,q1⟩
theorem Kk (ha:PT X a tA)(hb:PW X (.BoolOp .Or (b::rest) pos) B1):PW X (.BoolOp .Or (a::b::rest) pos) (Qe tA B1):=by
 intro wh pins s σ H Q I h
 refine isTrue_or (aT (ha pins s σ H _ I h) λc s1 ⟨H1,I1,q1⟩=>?_)
 cases c with
 |true=>exact⟨H1,I1,q1⟩
 |false=>exact hb wh pins s1 σ H1 Q I1 q1
theorem F1 (ha:PT X a tA):PT X (.UnaryOp .Not a pos) (Nh tA):=by
 intro pins s σ H Q I h
 exact isTrue_not (ha pins s σ H (λc H1=>Q (!c) H1) I h)
noncomputable def Kl (ta tb:TE):TE:=λσ H Q=>ta σ H λx H1=>∃c,x = .bl c/\if c=true then tb σ H1 Q else Q (.bl false) H1
noncomputable def Ni (ta tb:TE):TE:=λσ H Q=>ta σ H λx H1=>∃c,x = .bl c/\if c=true then Q (.bl true) H1 else tb σ H1 Q
theorem F2 {op}{t:TE}(h:PE X a t):PE X (.BoolOp op [a] pos) t:=λpins s σ H Q I hw=>BoolOp_one (h pins s σ H Q I hw)
theorem F3 (ha:PE X a ta)(hb:PE X (.BoolOp .And (b::rest) pos) tb):PE X (.BoolOp .And (a::b::rest) pos) (Kl ta tb):=by
 intro pins s σ H Q I h
 refine BoolOp_and (aT (ha pins s σ H _ I h) λv s1 ⟨x,H1,I1,r1,q1⟩=>?_)
 obtain⟨c,rfl,q1⟩:=q1
 cases r1
 refine wpAny_truthy_bool ?_
 cases c with
 |true=>exact hb pins s1 σ H1 Q I1 q1
 |false=>exact⟨.bl false,H1,I1,rfl,q1⟩
theorem Km (ha:PE X a ta)(hb:PE X (.BoolOp .Or (b::rest) pos) tb):PE X (.BoolOp .Or (a::b::rest) pos) (Ni ta tb):=by
 intro pins s σ H Q I h
 refine BoolOp_or (aT (ha pins s σ H _ I h) λv s1 ⟨x,H1,I1,r1,q1⟩=>?_)
 obtain⟨c,rfl,q1⟩:=q1
 cases r1
 refine wpAny_truthy_bool ?_
 cases c with
 |false=>exact hb pins s1 σ H1 Q I1 q1
 |true=>exact⟨.bl true,H1,I1,rfl,q1⟩
noncomputable def Qf (t:TT)(ta tb:TE):TE:=λσ H Q=>t σ H λc H1=>if c=true then ta σ H1 Q else tb σ H1 Q
theorem Au {c:Expr}(hc:PT X c tA)(ha:PE X a ta)(hb:PE X b tb):PE X (.IfExp c a b pos) (Qf tA ta tb):=by
 intro pins s σ H Q I h
 refine wpAny_IfExp (aT (hc pins s σ H _ I h) λd s1 ⟨H1,I1,q1⟩=>?_)
 cases d with
 |true=>exact ha pins s1 σ H1 Q I1 q1
 |false=>exact hb pins s1 σ H1 Q I1 q1
end
noncomputable def b7 (K:PySem.W.Frag)(H:Hp)(a:Addr)(xs:List V):Prop :=
 Rd H a (.lst xs) \/
  ∃(o:Obj) (ah:Array Value) (n:Nat),K.lookup a=some o/\o.cls = .type "list" /\ o.dict=none/\o.data = .seq ah n/\ah.size<=sizeLine/\Vals xs ah.toList
noncomputable def da (K:PySem.W.Frag)(H:Hp)(a:Addr)(xs:List V):Prop :=
 Rd H a (.tup xs) \/
  ∃(o:Obj) (ah:Array Value) (n:Nat),K.lookup a=some o/\o.cls = .type "tuple" /\ o.dict=none/\o.data = .seq ah n/\ah.size<=sizeLine/\Vals xs ah.toList
noncomputable def Nj:Value->Option V
 |.none=>some .ao
 |.bool b=>some (.bl b)
 |.int i _=>some (.int i)
 |.str x _=>some (.str x)
 |.bytes b _=>some (.xB b)
 |.float b _=>some (.c_ b)
 |.ref a=>some (.ref a)
 |.type n=>some (.ty n)
 |_=>none
theorem RelV.abs {x:V}{u:Value}(r:RelV x u):Nj u=some x:=by
 cases x with
 |ao=>cases r;rfl
 |bl _=>cases r;rfl
 |int _=>obtain⟨t,rfl⟩:=r;rfl
 |str _=>obtain⟨t,rfl⟩:=r;rfl
 |xB _=>obtain⟨t,rfl⟩:=r;rfl
 |c_ _=>obtain⟨t,rfl⟩:=r;rfl
 |ref _=>cases r;rfl
 |ty _=>cases r;rfl
theorem RelV.inj {x y:V}{u:Value}(r:RelV x u)(q:RelV y u):x=y:=Option.some.inj (r.abs.symm.trans q.abs)
theorem Vals.inj:∀{xs ys:List V} {us:List Value},Vals xs us->Vals ys us->xs=ys
 |_,_,_,.nil,.nil=>rfl
 |_,_,_,.cons r t,.cons r' t'=>by rw[r.inj r',Vals.inj t t']
section
variable {X:Cx}{pins:List (Addr×Obj)}{σ:St}{H:Hp}{s:Shared}{a:Addr}{xs ys:List V}
theorem b7.of {K:PySem.W.Frag}(h:H a=some (.lst xs)):b7 K H a xs:=.inl (.inl h)
theorem Inv.list (I:Inv X pins σ H s)(h:b7 X.K H a xs):∃ah:List Value,Vals xs ah/\PlainL s.heap a ah.toArray/\xs.length<=sizeLine:=by
 rcases h with h|⟨o,ah,n,hk,hc,hd,hs,hz,r⟩
 . obtain⟨z,ah,n,r,e⟩:=h.ok I.aV
   exact⟨ah,r,⟨_,n,e,rfl,rfl,rfl⟩,z⟩
 . refine⟨ah.toList,r,⟨o,n,I.dB a o hk,hc,hd,by simpa using hs⟩,?_⟩
   have e:=r.length
   simp only[Array.length_toList]at e
   omega
theorem Inv.F4 (I:Inv X pins σ H s)(h:da X.K H a xs):∃ah:List Value,Vals xs ah/\eA s.heap a ah.toArray/\xs.length<=sizeLine:=by
 rcases h with h|⟨o,ah,n,hk,hc,hd,hs,hz,r⟩
 . obtain⟨z,ah,r,p⟩:=h.ok I.aV
   exact⟨ah,r,p,z⟩
 . refine⟨ah.toList,r,⟨o,I.dB a o hk,hc,⟨n,by simpa using hs⟩,hd⟩,?_⟩
   have e:=r.length
   simp only[Array.length_toList]at e
   omega
theorem Inv.tuple (I:Inv X pins σ H s)(h:da X.K H a xs):∃ah:List Value,Vals xs ah/\IsTup s.heap a ah.toArray/\xs.length<=sizeLine :=
 let⟨ah,r,p,z⟩:=I.F4 h
 ⟨ah,r,p.t,z⟩
theorem Inv.qx (I:Inv X pins σ H s)(h:b7 X.K H a xs)(h':b7 X.K H a ys):xs=ys:=by
 obtain⟨ah,r,⟨o,n,e,_,_,d⟩,_⟩:=I.list h
 obtain⟨its',r',⟨o',n',e',_,_,d'⟩,_⟩:=I.list h'
 rw[e]at e';cases e'
 rw[d]at d'
 injection d' with d1 _
 have:ah=its':=by simpa using congrArg Array.toList d1
 subst this
 exact r.inj r'
theorem Inv.oF (I:Inv X pins σ H s)(h:da X.K H a xs)(h':da X.K H a ys):xs=ys:=by
 obtain⟨ah,r,⟨o,e,_,n,d⟩,_⟩:=I.tuple h
 obtain⟨its',r',⟨o',e',_,n',d'⟩,_⟩:=I.tuple h'
 rw[e]at e';cases e'
 rw[d]at d'
 injection d' with d1 _
 have:ah=its':=by simpa using congrArg Array.toList d1
 subst this
 exact r.inj r'
end
noncomputable abbrev Cx.iu (X:Cx)(E:Value->Shared->Prop):Cx:={ X with xe:=E }
noncomputable abbrev Cx.uu (X:Cx):Cx:=X.iu λ_ _=>False
theorem Cx.Ok.iu {X:Cx}(ok:X.Ok)(E:Value->Shared->Prop):(X.iu E).Ok :=
 ⟨ok.mod,ok.kind,ok.glob,ok.blt,ok.above,ok.inj,ok.has,ok.xD,ok.hd,ok.frames,ok.qp,ok.FR,ok.bs,ok.oD,ok.qq,ok.qr,ok.gC,ok.um⟩
theorem Cx.Ok.fN {X:Cx}{E:Value->Shared->Prop}(ok:(X.iu E).Ok):X.Ok :=
 ⟨ok.mod,ok.kind,ok.glob,ok.blt,ok.above,ok.inj,ok.has,ok.xD,ok.hd,ok.frames,ok.qp,ok.FR,ok.bs,ok.oD,ok.qq,ok.qr,ok.gC,ok.um⟩
section
variable {X:Cx}{pins:List (Addr×Obj)}{σ:St}{H:Hp}{s:Shared}{E:Value->Shared->Prop}
theorem Inv.iu (I:Inv X pins σ H s)(E:Value->Shared->Prop):Inv (X.iu E) pins σ H s:=⟨I.ok.iu E,I.os,I.bare,I.base,I.loc,I.cell,I.free,I.fF,I.pin,I.aV,I.len⟩
theorem Inv.fN (I:Inv (X.iu E) pins σ H s):Inv X pins σ H s:=⟨I.ok.fN,I.os,I.bare,I.base,I.loc,I.cell,I.free,I.fF,I.pin,I.aV,I.len⟩
theorem SP.fN {D:Ends}{f:Flow}{s':Shared}(h:SP (X.iu E) pins D f s'):SP X pins D f s':=by
 cases f with
 |next=>obtain⟨σ',H',I,q⟩:=h;exact⟨σ',H',I.fN,q⟩
 |brk=>obtain⟨σ',H',I,q⟩:=h;exact⟨σ',H',I.fN,q⟩
 |cont=>obtain⟨σ',H',I,q⟩:=h;exact⟨σ',H',I.fN,q⟩
 |ret u=>obtain⟨v,σ',H',I,r,q⟩:=h;exact⟨v,σ',H',I.fN,r,q⟩
theorem eM.uu {st:List Stmt}{t:TS}(h:eM X.uu st t):eM X st t:=λpins s σ H D I hw =>
 wpAny_mono (h pins s σ H D (I.iu _) hw) (λ_ _ q=>q.fN) λ_ _ z=>False.elim z
end
section
variable {X:Cx}{st:Stmt}{rest:List Stmt}{t u:TS}{e:Expr}{te:TE}{pos:Pos}
noncomputable def vN:TS:=λD σ H=>D.nx σ H
noncomputable def Nk (t u:TS):TS:=λD σ H=>t { D with nx:=u D } σ H
theorem Dz:eM X [] vN:=λ_ _ σ H _ I h=>wpAny_execs_nil ⟨σ,H,I,h⟩
theorem Av (h1:PS X st t)(h2:eM X rest u):eM X (st::rest) (Nk t u):=by
 intro pins s σ H D I h
 refine wpAny_execs_cons (aT (h1 pins s σ H { D with nx:=u D } I h) λf s1 q=>?_)
 cases f with
 |next =>
  obtain⟨σ',H',I',q⟩:=q
  exact h2 pins s1 σ' H' D I' q
 |ret v=>exact q
 |brk=>exact q
 |cont=>exact q
theorem DB (h1:PS X st t):eM X [st] t:=by
 intro pins s σ H D I h
 refine wpAny_execs_cons (aT (h1 pins s σ H D I h) λf s1 q=>?_)
 cases f with
 |next=>exact wpAny_execs_nil q
 |ret v=>exact q
 |brk=>exact q
 |cont=>exact q
theorem DC:PS X (.Pass pos) vN:=λ_ _ σ H _ I h=>wpAny_Pass ⟨σ,H,I,h⟩
theorem Inv.quiet {pins:List (Addr×Obj)}{σ:St}{H:Hp}{s:Shared}(I:Inv X pins σ H s):interactive X.env=false:=by simp[interactive,I.ok.kind]
theorem F5 {x j pos pos'}:PS X (.Expr (.Constant (.str x) j pos) pos') vN:=λ_ s σ H _ I h=>wpAny_Expr (Calls.Constant_str (show SP X _ _ .next { s with toks:=s.toks+1 } from⟨σ,H,I.tok _,h⟩)) I.quiet
noncomputable def Kn (te:TE):TS:=λD σ H=>te σ H λ_ H1=>D.nx σ H1
theorem DD (he:PE X e te)(hs:swapsWith e none pos.line X.env=pure false:=by rfl):PS X (.Expr e pos) (Kn te):=by
 intro pins s σ H D I h
 exact wpAny_Expr_any (aT (he pins s σ H _ I h) λv s1 ⟨x,H1,I1,r1,q1⟩=>⟨σ,H1,I1,q1⟩) I.quiet hs
noncomputable def Nl (te:TE):TS:=λD σ H=>te σ H D.rt
theorem F6 (he:PE X e te):PS X (.Return (some e) pos) (Nl te):=by
 intro pins s σ H D I h
 exact wpAny_Return_some (aT (he pins s σ H _ I h) λv s1 ⟨x,H1,I1,r1,q1⟩=>⟨x,σ,H1,I1,r1,q1⟩)
noncomputable def Nm (c:TT)(t u:TS):TS:=λD σ H=>c σ H λb H1=>if b=true then t D σ H1 else u D σ H1
theorem Ko {c:Expr}{a b:List Stmt}{tc:TT}(hc:PT X c tc)(ha:eM X a t)(hb:eM X b u):PS X (.If c a b pos) (Nm tc t u):=by
 intro pins s σ H D I h
 refine wpAny_If (aT (hc pins s σ H _ I h) λd s1 ⟨H1,I1,q1⟩=>?_)
 cases d with
 |true=>exact ha pins s1 σ H1 D I1 q1
 |false=>exact hb pins s1 σ H1 D I1 q1
end
abbrev TG:=V->St->Hp->(St->Hp->Prop)->Prop
abbrev oG:=List V->St->Hp->(St->Hp->Prop)->Prop
noncomputable def PG (X:Cx)(target:Expr)(t:TG):Prop :=
 ∀(pins:List (Addr×Obj)) (s:Shared) (σ:St) (H:Hp) (v:V) (u:Value) (Q:St->Hp->Prop),Inv X pins σ H s->RelV v u->t v σ H Q ->
  wpAny (model X.prog X.w) X.A (assign target X.env u) (λ_ s'=>∃σ' H',Inv X pins σ' H' s'/\Q σ' H') X.xe s
noncomputable def lx (X:Cx)(ts:List Expr)(t:oG):Prop :=
 ∀(pins:List (Addr×Obj)) (s:Shared) (σ:St) (H:Hp) (vs:List V) (us:List Value) (Q:St->Hp->Prop),Inv X pins σ H s->Vals vs us->t vs σ H Q ->
  wpAny (model X.prog X.w) X.A (assignInOrder ((assignEach ts X.env).map (·.2)) us) (λ_ s'=>∃σ' H',Inv X pins σ' H' s'/\Q σ' H') X.xe s
abbrev Aw:=V->V->V->Hp->(Hp->Prop)->Prop
noncomputable def Ax (X:Cx)(t:Aw):Prop :=
 ∀(pins:List (Addr×Obj)) (s:Shared) (σ:St) (H:Hp) (o i v:V) (ov iv u:Value) (Q:Hp->Prop),Inv X pins σ H s->RelV o ov->RelV i iv->RelV v u->t o i v H Q ->
  wpAny (model X.prog X.w) X.A (setItem ov iv u) (λ_ s'=>∃H',Inv X pins σ H' s'/\Q H') X.xe s
section
variable {X:Cx}{pos:Pos}
noncomputable def B2 (i:Nat):TG:=λv σ H Q=>Q (σ.set i (some v)) H
theorem DF {i:Nat}{x:Str}(hN:X.N.Nodup)(hi:X.N[i]? = some x)(hx:Loc X.env.scope x)(hf:X.fn x=true\/X.env.scope.names.lookup x=some .local:=by first|exact .inl rfl|exact .inr rfl|assumption):PG X (.Name x pos) (B2 i):=by
 intro pins s σ H v u Q I r h
 exact wpAny_assign_Name (jd I hN hi hx r (λs' I'=>⟨_,H,I',h⟩) hf)
noncomputable def Nn:oG:=λvs σ H Q=>vs = []/\Q σ H
noncomputable def Kp (t:TG)(u:oG):oG:=λvs σ H Q=>∃v r,vs=v::r/\t v σ H λσ' H'=>u r σ' H' Q
theorem DH:lx X [] Nn:=by
 intro pins s σ H vs us Q I r h
 obtain⟨e,h⟩:=h
 subst e
 cases r
 exact assignInOrder_nil ⟨σ,H,I,h⟩
theorem Ay {e:Expr}{es:List Expr}{t:TG}{u:oG}(h1:PG X e t)(h2:lx X es u)
  (hs:(assignEach (e::es) X.env).map (·.2)=assign e X.env::(assignEach es X.env).map (·.2):=by rfl):lx X (e::es) (Kp t u):=by
 intro pins s σ H vs us Q I r h
 obtain⟨v,vr,e1,h⟩:=h
 subst e1
 cases r with
 |cons r rr =>
  rw[hs]
  refine assignInOrder_cons (aT (h1 pins s σ H _ _ _ I r h) λ_ s1 ⟨σ1,H1,I1,q1⟩=>?_)
  exact h2 pins s1 σ1 H1 _ _ Q I1 rr q1
noncomputable def Np (K:PySem.W.Frag)(n:Nat)(t:oG):TG:=λv σ H Q=>∃a xs,v = .ref a/\da K H a xs/\xs.length=n/\t xs σ H Q
theorem F7 {es:List Expr}{k:Nat}{t:oG}{n:Nat}(hc:X.calm=true)(h:lx X es t)
  (hn:(assignEach es X.env).length=n:=by rfl) (cA:(assignEach es X.env).findIdx? (·.1)=none:=by rfl):PG X (.Tuple es k pos) (Np X.K n t):=by
 intro pins s σ H v u Q I r hw
 obtain⟨a,xs,e1,hq,hl,hw⟩:=hw
 subst e1
 cases r
 obtain⟨ah,rv,ht,hz⟩:=I.tuple hq
 refine assign_Tuple_tuple (I.ok.hd hc) ht (by simp[hn,<- hl,rv.length]) cA λh' hx=>?_
 have I1:Inv X pins σ H { s with heap:=h' }:=I.kept (t':=s.toks) λb o e=>hx b o (Nat.ne_of_lt (Heap.lt_size e)) e
 exact h pins _ σ H xs _ Q I1 (by simpa using rv) hw
noncomputable def Nq (to ti:TE)(t:Aw):TG:=λv σ H Q=>to σ H λo H1=>ti σ H1 λi H2=>t o i v H2 λH3=>Q σ H3
theorem F8 {o i:Expr}{to ti:TE}{t:Aw}(ho:PE X o to)(hi:PE X i ti)(hs:Ax X t)
  (ha:∀v,assign (.Subscript o i pos) X.env v=(do
   let ov <- holding [v] (eval o X.env)
   let iv <- holding [v,ov] (eval i X.env)
   standAt pos
   holding [v,ov,iv] (setItem ov iv v)
   release [v,ov,iv] []):=by intro _;rfl):PG X (.Subscript o i pos) (Nq to ti t):=by
 intro pins s σ H v u Q I r h
 rw[ha]
 refine wpAny_bind (wpAny_holding (aT (ho pins s σ H _ I h) λov s1 ⟨x,H1,I1,r1,q1⟩=>?_))
 refine wpAny_bind (wpAny_holding (aT (hi pins s1 σ H1 _ I1 q1) λiv s2 ⟨y,H2,I2,r2,q2⟩=>?_))
 refine wpAny_bind (wpAny_standAt (wpAny_bind (wpAny_holding (aT (hs pins s2 σ H2 x y v ov iv u _ I2 r1 r2 r q2) λ_ s3 ⟨H3,I3,q3⟩=>?_))))
 exact wpAny_release ⟨σ,H3,I3,q3⟩
noncomputable def Az (te:TE)(g:TG):TS:=λD σ H=>te σ H λx H1=>g x σ H1 D.nx
theorem F9 {tg e:Expr}{te:TE}{g:TG}(he:PE X e te)(hg:PG X tg g)(hs:swapsWithSole [tg] e pos.line X.env=pure false:=by rfl)(hw:swappedStores [tg] e X.env=pure none:=by rfl)
  (h1:(assignEach [tg] X.env).map (·.2)= [assign tg X.env]:=by rfl):PS X (.Assign [tg] e pos) (Az te g):=by
 intro pins s σ H D I h
 refine wpAny_Assign_stores (aT (he pins s σ H _ I h) λv s1 ⟨x,H1,I1,r1,q1⟩=>?_) hs hw
 rw[h1]
 exact aT (hg pins s1 σ H1 x v _ I1 r1 q1) λ_ s2 q=>q
theorem F_ {i:Nat}{x:Str}{e:Expr}{te:TE}{pos':Pos}(hN:X.N.Nodup)(hi:X.N[i]? = some x)(hx:Loc X.env.scope x)(he:PE X e te)(hs:swapsWith e (some (.Name x pos')) pos.line X.env=pure false:=by rfl)(hf:X.fn x=true\/X.env.scope.names.lookup x=some .local:=by first|exact .inl rfl|exact .inr rfl|assumption):
  PS X (.Assign [.Name x pos'] e pos) (Az te (B2 i)):=by
 intro pins s σ H D I h
 refine wpAny_Assign_Name (aT (he pins s σ H _ I h) λv s1 ⟨y,H1,I1,r1,q1⟩=>?_) hs
 exact jd I1 hN hi hx r1 (λs2 I2=>⟨_,H1,I2,q1⟩) hf
noncomputable def Nr (i j:Nat)(ta:TA):TS:=λD σ H=>ta σ H λvs H1=>∃v w,vs = [v,w]/\D.nx ((σ.set i (some v)).set j (some w)) H1
theorem Ga {i j:Nat}{x y:Str}{a b:Expr}{ta:TA}{px py pt:Pos}{kt k2 jV}(hc:X.calm=true)(hN:X.N.Nodup)(hi:X.N[i]? = some x)(hj:X.N[j]? = some y)(dI:i≠j)
  (hx:X.env.scope.names.lookup x=some .local) (hy:X.env.scope.names.lookup y=some .local) (ha:PA X [a,b] ta)
  (hw:swappedStores [.Tuple [.Name x px,.Name y py] kt pt] (.Tuple [a,b] k2 jV) X.env=pure (some [x,y]))
  (hs:swapsWithSole [.Tuple [.Name x px,.Name y py] kt pt] (.Tuple [a,b] k2 jV) pos.line X.env=pure false:=by rfl):
  PS X (.Assign [.Tuple [.Name x px,.Name y py] kt pt] (.Tuple [a,b] k2 jV) pos) (Nr i j ta):=by
 intro pins s σ H D I h
 rw[exec_Assign_arm]
 refine wpAny_bind (wpAny_standAt ?_)
 rw[hs]
 refine wpAny_bind (wpAny_pure ?_)
 rw[if_neg (by decide)]
 refine wpAny_bind (Tuple_ (aT (ha _ pins s σ H _ I h) λus s1 ⟨vs,H1,I1,r1,q1⟩=>?_))
 obtain⟨v,w,e1,q1⟩:=q1
 subst e1
 obtain⟨u1,u2,rfl,rv,xH⟩:∃u1 u2,us = [u1,u2]/\RelV v u1/\RelV w u2:=by
  cases r1 with
  |cons p q =>
   cases q with
   |cons p' q' =>
    cases q'
    exact⟨_,_,rfl,p,p'⟩
 refine wpAny_newObj_type ?_ (by show 2<=sizeLine;decide)
 have I2:Inv X pins σ H1 { s1 with heap:=s1.heap.push { cls:=.type "tuple",data:=.seq [u1,u2].toArray } }:=I1.kept (t':=s1.toks) λb o e=>Heap.get?_push_of_some _ e
 rw[hw]
 refine wpAny_bind (wpAny_pure ?_)
 show wpAny (model X.prog X.w) X.A (do rule "assign.swapped-stores";let items <- unpackItems (.ref s1.heap.objs.size) 2 none;assignInOrder [λv=>bindName X.env y v,λv=>bindName X.env x v] items.reverse;pure Flow.next) _ _ _
 refine wpAny_bind (wpAny_rule (wpAny_bind (unpackItems_tuple (items:=#[u1,u2]) (I.ok.hd hc) (IsTup.new s1.heap _) λh' uv=>?_)))
 have I3:=I2.kept (h':=h') (t':=s1.toks) λb o e=>uv b o (Nat.ne_of_lt (Heap.lt_size e)) e
 show wpAny _ _ (assignInOrder [λv=>bindName X.env y v,λv=>bindName X.env x v] [u2,u1] >>= λ_=>pure Flow.next) _ _ _
 refine wpAny_bind (assignInOrder_cons (wpAny_bindName (jd I3 hN hj (.inl hy) xH (λs2 I4=>?_) (.inr hy))))
 refine assignInOrder_cons (wpAny_bindName (jd I4 hN hi (.inl hx) rv (λs3 I5=>assignInOrder_nil (wpAny_pure ?_)) (.inr hx)))
 rw[List.set_comm _ _ (Ne.symm dI)]at I5
 exact⟨_,H1,I5,q1⟩
end
structure It where
 go:Nat->Hp->Prop
 xI:Nat->Hp->V->Hp->Prop
 stop:Nat->Hp->Prop
noncomputable def eT (X:Cx)(pins:List (Addr×Obj))(H:Hp)(b:Addr):Prop :=
 H b=none/\b≠X.env.locals/\b ∉ X.fs/\(b∈X.ex\/X.s₀.heap.objs.size<=b)/\(∀x c,X.env.cells.lookup x=some c->c≠b) /\ ∀p∈X.pn++pins,p.1≠b
theorem Inv.qy {X:Cx}{pins:List (Addr×Obj)}{σ:St}{H H':Hp}{s:Shared}{b:Addr}(I:Inv X pins σ H s)(hb:s.heap.objs.size<=b)(hn:H' b=none):eT X pins H' b:=by
 refine⟨hn,Nat.ne_of_gt (Nat.lt_of_lt_of_le I.lt hb),I.Nb hb,.inr (Nat.le_trans I.sz hb),λx c e z=>?_,λp hp z=>?_⟩
 . obtain⟨v,q⟩:=I.cell x c e
   exact absurd (Nat.lt_of_lt_of_le q.lt (by rw[z];exact hb)) (Nat.lt_irrefl _)
 . exact absurd (Nat.lt_of_lt_of_le (Heap.lt_size (I.pin p hp).1) (by rw[z];exact hb)) (Nat.lt_irrefl _)
structure Turn (P:Program)(w:World)(K:PySem.W.Frag)(tg:Expr)(J:It)(fp:List Addr)(it:Addr)(tn:Nat->Heap->Prop):Prop where
 mem:it∈fp
 obj:∀i h,tn i h->∀b∈fp,∃o,h.get? b=some o /\ ∀v,o.data ≠ .cell v
 keep:∀i h h',tn i h->(∀b∈fp,∀o,h.get? b=some o->h'.get? b=some o)->tn i h'
 item:∀(X:Cx),X.prog=P->X.w=w->X.K=K->X.calm=true->∀(i:Nat) (pins:List (Addr×Obj)) (s:Shared) (σ:St) (H:Hp) (E:Value->Shared->Prop),Inv X pins σ H s->(∀b∈fp,eT X pins H b)->tn i s.heap->J.go i H ->
  wpAny (model P w) X.A (pyNext (.ref it)) (λr s1=>∃u,r=some u /\
   wpAny (model P w) X.A (letOwnedTupleGo tg (.ref it) u) (λ_ s2=>∃x H',Inv X pins σ H' s2/\RelV x u/\J.xI i H x H'/\tn (i+1) s2.heap /\ ∀b∈fp,H' b=none) E s1) E s
 done:∀(X:Cx),X.prog=P->X.w=w->X.K=K->X.calm=true->∀(i:Nat) (pins:List (Addr×Obj)) (s:Shared) (σ:St) (H:Hp) (E:Value->Shared->Prop),Inv X pins σ H s->(∀b∈fp,eT X pins H b)->tn i s.heap->J.stop i H ->
  wpAny (model P w) X.A (pyNext (.ref it)) (λr s1=>r=none/\Inv X pins σ H s1) E s
 self:∀(A:Around) (i:Nat) (s:Shared) (Q:Value->Shared->Prop) (E:Value->Shared->Prop),tn i s.heap->Q (.ref it) s->wpAny (model P w) A (pyIter (.ref it)) Q E s
abbrev TI:=St->Hp->(It->Hp->Prop)->Prop
noncomputable def LM (X:Cx)(pins:List (Addr×Obj))(σ:St)(tg:Expr)(R:It->Hp->Prop)(Gb:Value)(s2:Shared):Prop :=
 ∃(it:Addr) (fp:List Addr) (tn:Nat->Heap->Prop) (J:It) (H':Hp),Gb = .ref it/\Inv X pins σ H' s2/\Turn X.prog X.w X.K tg J fp it tn/\tn 0 s2.heap/\(∀b∈fp,eT X pins H' b)/\R J H'
noncomputable def PI (X:Cx)(tg iter:Expr)(wi:TI):Prop :=
 ∀(pins:List (Addr×Obj)) (s:Shared) (σ:St) (H:Hp) (R:It->Hp->Prop),Inv X pins σ H s->wi σ H R ->
  wpAny (model X.prog X.w) X.A (eval iter X.env) (λv s1=>wpAny (model X.prog X.w) X.A (pyIter v) (LM X pins σ tg R) X.xe s1) X.xe s
theorem vO {M : Model} {A : Around} {E : Value -> Shared -> Prop} {s : Shared} {tg : Expr} {it : Addr} {u : Value} {o : Obj} {n : String} {vs : Array Value} {Q : Unit -> Shared -> Prop} (ho : s.heap.get? it = some o) (hc : o.cls = .type n) (hd : o.data = .fields vs)
   (hn : ["enumerate", "zip", "dict_itemiterator", "dict_reverseitemiterator", "odict_iterator", "itertools.zip_longest", "itertools.pairwise"].contains n = false) (hQ : Q () s): wpAny M A (letOwnedTupleGo tg (.ref it) u) Q E s := by
 unfold letOwnedTupleGo
 cases tg <;> first
   |exact wpAny_pure hQ
   | (cases u <;> first
       |exact wpAny_pure hQ
       | (refine wpAny_bind (wpAny_load ho ?_)
          rw[hc, hd]
          show wpAny M A (if (["enumerate", "zip", "dict_itemiterator", "dict_reverseitemiterator", "odict_iterator", "itertools.zip_longest", "itertools.pairwise"].contains n && vs[0]? == some (rawInt _))= true then _ else _) Q E s
          rw[if_neg (by intro h; rw[hn, Bool.false_and]at h; cases h)]
          exact wpAny_pure hQ))
noncomputable def B4 (K:PySem.W.Frag)(a:Addr):It :=
 ⟨λi H=>∃xs x,b7 K H a xs/\xs[i]? = some x,λi H x H'=>H'=H /\ ∀xs,b7 K H a xs->xs[i]? = some x,λi H=>∃xs,b7 K H a xs/\xs.length<=i⟩
noncomputable def Ge (K:PySem.W.Frag)(a:Addr):It :=
 ⟨λi H=>∃xs x,da K H a xs/\xs[i]? = some x,λi H x H'=>H'=H /\ ∀xs,da K H a xs->xs[i]? = some x,λi H=>∃xs,da K H a xs/\xs.length<=i⟩
noncomputable def xJ (lo:Int)(n:Nat):It:=⟨λi _=>i<n,λi H x H'=>H'=H/\x = .int (lo+i),λi _=>n<=i⟩
theorem xK {P:Program}{w:World}{K:PySem.W.Frag}{tg:Expr}(a it:Addr):Turn P w K tg (B4 K a) [it] it (λi h=>h.IsListIter it a i) where
 mem:=by simp
 obj:=λi h st b hb=>by
  have e:b=it:=by simpa using hb
  subst e
  obtain⟨o,e,c,d⟩:=st
  exact⟨o,e,λv z=>by rw[d]at z;cases z⟩
 keep:=λi h h' st k=>st.at λo e=>k it (by simp) o e
 item:=by
  intro X hP hw hK hc i pins s σ H E I hf st hg
  subst hP hw hK
  obtain⟨xs,x,hq,hx⟩:=hg
  obtain⟨ah,rv,p,hz⟩:=I.list hq
  obtain⟨u,hu,ru⟩:=rv.get hx
  obtain⟨f0,f1,f2,f3,f4,f5⟩:=hf it (by simp)
  refine wpAny_pyNext_list_item st p.isList (x:=u) (by simpa using hu) λh' d6 sb=>?_
  have I1:Inv X pins σ H { s with heap:=h' }:=I.turned (t':=s.toks) (λb o hb e=>(sb.2 b hb).trans e) f0 f1 f3 f4 f5
  obtain⟨o,e,c,d⟩:=id d6
  exact⟨u,rfl,vO (s:={ s with heap:=h' }) e c d (by decide) ⟨x,H,I1,ru,⟨rfl,λys hy=>by rw[I.qx hy hq];exact hx⟩,d6,λb hb=>(hf b hb).1⟩⟩
 done:=by
  intro X hP hw hK hc i pins s σ H E I hf st hg
  subst hP hw hK
  obtain⟨xs,hq,hx⟩:=hg
  obtain⟨ah,rv,p,hz⟩:=I.list hq
  obtain⟨f0,f1,f2,f3,f4,f5⟩:=hf it (by simp)
  have hl:=rv.length
  exact wpAny_pyNext_list_end (I.ok.hd hc) st p.isList (by simp;omega) λh' eb=>⟨rfl,I.turned (t':=s.toks) (λb o hb e=>eb b o hb e) f0 f1 f3 f4 f5⟩
 self:=λ_ _ _ _ _ st h=>wpAny_pyIter_listiter st h
theorem vP {P:Program}{w:World}{K:PySem.W.Frag}{tg:Expr}(a it:Addr):Turn P w K tg (Ge K a) [it] it (λi h=>h.IsTupleIter it a i) where
 mem:=by simp
 obj:=λi h st b hb=>by
  have e:b=it:=by simpa using hb
  subst e
  obtain⟨o,e,c,d⟩:=st
  exact⟨o,e,λv z=>by rw[d]at z;cases z⟩
 keep:=λi h h' st k=>st.at λo e=>k it (by simp) o e
 item:=by
  intro X hP hw hK hc i pins s σ H E I hf st hg
  subst hP hw hK
  obtain⟨xs,x,hq,hx⟩:=hg
  obtain⟨ah,rv,p,hz⟩:=I.tuple hq
  obtain⟨u,hu,ru⟩:=rv.get hx
  obtain⟨f0,f1,f2,f3,f4,f5⟩:=hf it (by simp)
  refine wpAny_pyNext_tuple_item st (show s.heap.IsTuple a ah.toArray from p) (x:=u) (by simpa using hu) λh' d6 sb=>?_
  have I1:Inv X pins σ H { s with heap:=h' }:=I.turned (t':=s.toks) (λb o hb e=>(sb.2 b hb).trans e) f0 f1 f3 f4 f5
  obtain⟨o,e,c,d⟩:=id d6
  exact⟨u,rfl,vO (s:={ s with heap:=h' }) e c d (by decide) ⟨x,H,I1,ru,⟨rfl,λys hy=>by rw[I.oF hy hq];exact hx⟩,d6,λb hb=>(hf b hb).1⟩⟩
 done:=by
  intro X hP hw hK hc i pins s σ H E I hf st hg
  subst hP hw hK
  obtain⟨xs,hq,hx⟩:=hg
  obtain⟨ah,rv,p,hz⟩:=I.tuple hq
  obtain⟨f0,f1,f2,f3,f4,f5⟩:=hf it (by simp)
  have hl:=rv.length
  exact wpAny_pyNext_tuple_end (I.ok.hd hc) st (show s.heap.IsTuple a ah.toArray from p) (by simp;omega) λh' eb=>⟨rfl,I.turned (t':=s.toks) (λb o hb e=>eb b o hb e) f0 f1 f3 f4 f5⟩
 self:=λ_ _ _ _ _ st h=>wpAny_pyIter_tupleiter st h
theorem vQ {P:Program}{w:World}{K:PySem.W.Frag}{tg:Expr}(it:Addr)(lo:Int)(n:Nat):Turn P w K tg (xJ lo n) [it] it (λi h=>IsRangeIter h it (lo+(i:Nat)*1) ((n:Int)-(i:Nat)) 1) where
 mem:=by simp
 obj:=λi h st b hb=>by
  have e:b=it:=by simpa using hb
  subst e
  exact⟨_,st,λv z=>by
   have z':Data.fields _=Data.cell v:=z
   cases z'⟩
 keep:=λi h h' st k=>k it (by simp) _ st
 item:=by
  intro X hP hw hK hc i pins s σ H E I hf st hg
  subst hP hw hK
  obtain⟨f0,f1,f2,f3,f4,f5⟩:=hf it (by simp)
  have W:=Walks.range (prog:=X.prog) (w:=X.w) (I.ok.hd hc) it lo 1 n
  refine W.item i s _ _ hg st λv h' tk hv d6 kk=>?_
  obtain⟨t,rfl⟩:=hv
  have I1:Inv X pins σ H { s with heap:=h',toks:=tk }:=I.turned (λb o hb e=>kk b o (by simpa using hb) e) f0 f1 f3 f4 f5
  refine⟨_,rfl,vO (s:={ s with heap:=h',toks:=tk }) (n:="range_iterator") d6 rfl rfl (by decide) ⟨.int (lo+i),H,I1,⟨t,?_⟩,⟨rfl,rfl⟩,d6,λb hb=>(hf b hb).1⟩⟩
  rw[Int.mul_one]
 done:=by
  intro X hP hw hK hc i pins s σ H E I hf st hg
  subst hP hw hK
  obtain⟨f0,f1,f2,f3,f4,f5⟩:=hf it (by simp)
  exact wpAny_pyNext_range_end (I.ok.hd hc) st (by have:n<=i:=hg;omega) λh' eb=>⟨rfl,I.turned (t':=s.toks) (λb o hb e=>eb b o hb e) f0 f1 f3 f4 f5⟩
 self:=λ_ _ _ _ _ st h=>wpAny_pyIter_rangeiter st h
section
variable {X:Cx}{tg:Expr}
noncomputable def Kq (K:PySem.W.Frag)(tl:TE):TI:=λσ H R=>tl σ H λx H1=>∃a,x = .ref a/\(∃xs,b7 K H1 a xs)/\R (B4 K a) H1
noncomputable def Nt (K:PySem.W.Frag)(tl:TE):TI:=λσ H R=>tl σ H λx H1=>∃a,x = .ref a/\(∃xs,da K H1 a xs)/\R (Ge K a) H1
theorem uw {l:Expr}{tl:TE}(hl:PE X l tl):PI X tg l (Kq X.K tl):=by
 intro pins s σ H R I h
 refine aT (hl pins s σ H _ I h) λv s1 ⟨x,H1,I1,r1,q1⟩=>?_
 obtain⟨a,e,⟨xs,hq⟩,q⟩:=q1
 subst e
 cases r1
 obtain⟨ah,rv,p,hz⟩:=I1.list hq
 refine wpAny_pyIter_list p.isList ?_
 refine⟨s1.heap.objs.size,[s1.heap.objs.size],_,_,H1,rfl,I1.kept (t':=s1.toks) λb o e=>Heap.get?_push_of_some _ e,xK a _,⟨_,Heap.get?_push_size _ rfl,rfl,rfl⟩,λb hb=>?_,q⟩
 have e:b=s1.heap.objs.size:=by simpa using hb
 subst e
 exact I1.qy (Nat.le_refl _) (I1.aV.fresh (Nat.le_refl _))
theorem Gf {l:Expr}{tl:TE}(hl:PE X l tl):PI X tg l (Nt X.K tl):=by
 intro pins s σ H R I h
 refine aT (hl pins s σ H _ I h) λv s1 ⟨x,H1,I1,r1,q1⟩=>?_
 obtain⟨a,e,⟨xs,hq⟩,q⟩:=q1
 subst e
 cases r1
 obtain⟨ah,rv,p,hz⟩:=I1.tuple hq
 refine wpAny_pyIter_tuple (show s1.heap.IsTuple a ah.toArray from p) ?_
 refine⟨s1.heap.objs.size,[s1.heap.objs.size],_,_,H1,rfl,I1.kept (t':=s1.toks) λb o e=>Heap.get?_push_of_some _ e,vP a _,⟨_,Heap.get?_push_size _ rfl,rfl,rfl⟩,λb hb=>?_,q⟩
 have e:b=s1.heap.objs.size:=by simpa using hb
 subst e
 exact I1.qy (Nat.le_refl _) (I1.aV.fresh (Nat.le_refl _))
theorem qz {pins:List (Addr×Obj)}{σ:St}{H:Hp}{s:Shared}{R:It->Hp->Prop}{E:Value->Shared->Prop}{lo hi:Int}{t u v:Tok}{tk:Nat}(I:Inv X pins σ H s)(h1:-(2 ^ 62)<=lo)(h2:lo<2 ^ 62)(h3:-(2 ^ 62)<=hi)(h4:hi<2 ^ 62)
   (q:R (xJ lo (hi-lo).toNat) H):wpAny (model X.prog X.w) X.A (pyIter (.ref s.heap.objs.size)) (LM X pins σ tg R) E { s with heap:=s.heap.push { cls:=.type "range",data:=.fields #[.int lo t,.int hi u,.int 1 v] },toks:=tk }:=by
 refine wpAny_pyIter_range (IsRange.new ..) (small_one h1 h2 h3 h4) ?_
 have I1:Inv X pins σ H { s with heap:=s.heap.push { cls:=.type "range",data:=.fields #[.int lo t,.int hi u,.int 1 v] },toks:=tk }:=I.kept λb o e=>Heap.get?_push_of_some _ e
 refine⟨(s.heap.push { cls:=.type "range",data:=.fields #[.int lo t,.int hi u,.int 1 v] }).objs.size,[(s.heap.push { cls:=.type "range",data:=.fields #[.int lo t,.int hi u,.int 1 v] }).objs.size],_,_,H,rfl,
   I1.kept (t':=tk) λb o e=>Heap.get?_push_of_some _ e,vQ _ lo (hi-lo).toNat,?_,λb hb=>?_,q⟩
 . have e1:lo+((0:Nat):Int)*1=lo:=by simp
   have e2:(((hi-lo).toNat:Nat):Int)-((0:Nat):Int)=Builtin.Range.rangeSize lo hi 1:=by rw[rangeSize_one];split<;>omega
   show IsRangeIter _ _ (lo+((0:Nat):Int)*1) ((((hi-lo).toNat:Nat):Int)-((0:Nat):Int)) 1
   rw[e1,e2]
   exact Heap.get?_push_size _ rfl
 . have e:b=(s.heap.push { cls:=.type "range",data:=.fields #[.int lo t,.int hi u,.int 1 v] }).objs.size:=by simpa using hb
   subst e
   exact I1.qy (Nat.le_refl _) (I1.aV.fresh (Nat.le_refl _))
noncomputable def Kr (ta:TA):TI:=λσ H R=>ta σ H λvs H1=>∃j:Int,vs = [.int j] /\ -(2 ^ 62)<=j/\j<2 ^ 62/\R (xJ 0 j.toNat) H1
noncomputable def Ks (ta:TA):TI:=λσ H R=>ta σ H λvs H1=>∃i j:Int,vs = [.int i,.int j]/\(-(2 ^ 62)<=i/\i<2 ^ 62 /\ -(2 ^ 62)<=j/\j<2 ^ 62)/\R (xJ i (j-i).toNat) H1
theorem xM {a:Expr}{ta:TA}{p pos:Pos}(hg:Gl X "range")(hm:X.mg "range" = none)(ha:PA X [a] ta)(hs:starEach [a] X.env = [(false,eval a X.env)]:=by rfl):PI X tg (.Call (.Name "range" p) [a] [] pos) (Kr ta):=by
 intro pins s σ H R I h
 refine Call_ (gF I hg hm boot_range (PyProof.Rows.callWith_type1 (aT (ha pos pins s σ H _ I h) λus s1 ⟨vs,H1,I1,r1,q1⟩=>?_) hs rfl))
 obtain⟨j,e,q1,q2,q⟩:=q1
 subst e
 cases r1 with
 |cons r rr =>
  cases rr
  obtain⟨t,rfl⟩:=r
  exact call_range_1 (qz I1 (by omega) (by omega) q1 q2 (by simpa using q))
theorem xN {a b:Expr}{ta:TA}{p pos:Pos}(hg:Gl X "range")(hm:X.mg "range" = none)(ha:PA X [a,b] ta)(hs:starEach [a,b] X.env = [(false,eval a X.env),(false,eval b X.env)]:=by rfl)(ux:starEach [b] X.env = [(false,eval b X.env)]:=by rfl):
  PI X tg (.Call (.Name "range" p) [a,b] [] pos) (Ks ta):=by
 intro pins s σ H R I h
 refine Call_ (gF I hg hm boot_range (PyProof.Rows.callWith_type1 (aT (ha pos pins s σ H _ I h) λus s1 ⟨vs,H1,I1,r1,q1⟩=>?_) (by rw[hs,ux]) (by rw[ux];rfl)))
 obtain⟨i,j,e,⟨q1,q2,q3,q4⟩,q⟩:=q1
 subst e
 cases r1 with
 |cons r rr =>
  cases rr with
  |cons r' rr =>
   cases rr
   obtain⟨t,rfl⟩:=r
   obtain⟨t',rfl⟩:=r'
   exact call_range_2 (qz I1 q1 q2 q3 q4 q)
noncomputable def Nu (wi:TI)(g:TG)(tb:TS):TS:=λD σ H=>wi σ H λJ H1=>∃W:Nat->Nat->St->Hp->Prop,(∃m,W 0 m σ H1) /\ ∀i m σ H,W i m σ H ->
 (J.stop i H/\D.nx σ H)\/(J.go i H /\ ∃N:St->Hp->Prop,(∀σ' H',N σ' H'->∃m',m' < m/\W (i+1) m' σ' H') /\ ∀x H',J.xI i H x H'->g x σ H' λσ2 H2=>tb { D with nx:=N,ct:=N,bk:=D.nx } σ2 H2)
noncomputable def jW (fp:List Addr)(h:Heap):List (Addr×Obj):=fp.filterMap λb=>(h.get? b).map λo=>(b,o)
theorem gp {fp:List Addr}{h:Heap}{b:Addr}{o:Obj}(hb:b∈fp)(e:h.get? b=some o):(b,o)∈jW fp h:=List.mem_filterMap.mpr ⟨b,hb,by rw[e];rfl⟩
theorem xO {fp:List Addr}{h:Heap}{p:Addr×Obj}(hp:p∈jW fp h):p.1∈fp/\h.get? p.1=some p.2:=by
 obtain⟨b,hb,e⟩:=List.mem_filterMap.mp hp
 cases q:h.get? b with
 |none=>rw[q]at e;cases e
 |some o =>
  rw[q]at e
  have e':(b,o)=p:=Option.some.inj e
  subst e'
  exact⟨hb,q⟩
theorem Inv.pinned {pins:List (Addr×Obj)}{σ:St}{H:Hp}{s:Shared}{fp:List Addr}(I:Inv X pins σ H s)(hf:∀b∈fp,eT X pins H b)(ho:∀b∈fp,∃o,s.heap.get? b=some o /\ ∀v,o.data ≠ .cell v):Inv X (pins++jW fp s.heap) σ H s :=
 I.uq λp hp=>(List.mem_append.mp hp).elim (λz=>I.pin p (List.mem_append_right _ z)) λz=>by
  obtain⟨hb,e⟩:=xO z
  obtain⟨f0,f1,f2,_⟩:=hf p.1 hb
  obtain⟨o,e',d⟩:=ho p.1 hb
  rw[e]at e';cases e'
  exact⟨e,f0,f1,f2,d⟩
theorem Inv.je {pins pl:List (Addr×Obj)}{σ:St}{H:Hp}{s:Shared}(I:Inv X (pins++pl) σ H s):Inv X pins σ H s:=I.uq λp hp=>I.pin p (List.mem_append_right _ (List.mem_append_left _ hp))
theorem Gg {iter:Expr}{body:List Stmt}{wi:TI}{g:TG}{tb:TS}{pos:Pos}(hp:PassesOwn (model X.prog X.w) X.A X.env X.xe)(hc:X.calm=true)(hi:PI X tg iter wi)(hg:PG X tg g)(hb:eM X body tb)
   (hs:∀x,foldedSetIterable iter X.env x=pure x:=by intro _;rfl):PS X (.For tg iter body [] pos) (Nu wi g tb):=by
 intro pins s σ H D I h
 refine wpAny_For (aT (hi pins s σ H _ I h) λv s1 h1=>aT h1 λGb s2 h2=>?_) hs
 obtain⟨it,fp,tn,J,H2,e,I2,T,Qg,f2,W,⟨m0,w0⟩,turn⟩:=h2
 subst e
 have lP:∀{H':Hp},(∀b∈fp,H' b=none)->∀b∈fp,eT X pins H' b:=λhn b hb=>⟨hn b hb,(f2 b hb).2⟩
 refine codeAny_forLoop_any (λn s'=>∃i σ' H',Inv X pins σ' H' s'/\tn i s'.heap/\(∀b∈fp,H' b=none)/\W i n σ' H') ?_ m0 ⟨0,σ,H2,I2,Qg,λb hb=>(f2 b hb).1,w0⟩
 rintro n s3 ⟨i,σ3,H3,I3,LN,LO,w3⟩
 rcases turn i n σ3 H3 w3 with⟨stop,qn⟩|⟨go,N,hN,step⟩
 . refine wpAny_passesOwn hp (aT (T.done X rfl rfl rfl hc i pins s3 σ3 H3 X.xe I3 (lP LO) LN stop) λr s4 ⟨hr,I4⟩=>?_)
   subst hr
   exact wpAny_execs_nil ⟨σ3,H3,I4,qn⟩
 . refine wpAny_passesOwn hp (aT (T.item X rfl rfl rfl hc i pins s3 σ3 H3 X.xe I3 (lP LO) LN go) λr s4 ⟨u,hr,h4⟩=>?_)
   subst hr
   refine wpAny_passesOwn hp (aT h4 λ_ s5 ⟨x,H5,I5,r5,y5,Gh,Gi⟩=>?_)
   have I5':=I5.pinned (lP Gi) (T.obj _ _ Gh)
   refine wpAny_passesOwn hp (aT (hg _ s5 σ3 H5 x u _ I5' r5 (step x H5 y5)) λ_ s6 ⟨σ6,H6,I6,q6⟩=>?_)
   refine wpAny_passesOwn hp (aT (hb _ s6 σ6 H6 _ I6 q6) λf s7 q7=>?_)
   have again:∀{σ7:St} {H7:Hp},Inv X (pins++jW fp s5.heap) σ7 H7 s7->N σ7 H7->∃m,m<n /\ ∃i σ' H',Inv X pins σ' H' s7/\tn i s7.heap/\(∀b∈fp,H' b=none)/\W i m σ' H':=fun {σ7 H7} I7 n7=>by
    obtain⟨m',hm,w7⟩:=hN σ7 H7 n7
    refine⟨m',hm,i+1,σ7,H7,I7.je,T.keep _ _ _ Gh λb hb o e=>(I7.pin (b,o) (List.mem_append_right _ (List.mem_append_right _ (gp hb e)))).1,λb hb=>?_,w7⟩
    obtain⟨o,e,d⟩:=T.obj _ _ Gh b hb
    exact(I7.pin (b,o) (List.mem_append_right _ (List.mem_append_right _ (gp hb e)))).2.1
   cases f with
   |next=>obtain⟨σ7,H7,I7,n7⟩:=q7;exact again I7 n7
   |cont=>obtain⟨σ7,H7,I7,n7⟩:=q7;exact again I7 n7
   |brk=>obtain⟨σ7,H7,I7,q7⟩:=q7;exact⟨σ7,H7,I7.je,q7⟩
   |ret v=>obtain⟨x7,σ7,H7,I7,r7,q7⟩:=q7;exact⟨x7,σ7,H7,I7.je,r7,q7⟩
end
abbrev R2:=V->V->Hp->VK->Prop
noncomputable def aX (X:Cx)(f:Value->Value->Sem Value)(r:R2):Prop :=
 ∀(pins:List (Addr×Obj)) (s:Shared) (σ:St) (H:Hp) (x y:V) (v u:Value) (Q:VK),Inv X pins σ H s->RelV x v->RelV y u->r x y H Q ->
  wpAny (model X.prog X.w) X.A (f v u) (EP X pins σ Q) X.xe s
noncomputable def xP (X:Cx)(f:Value->Sem Value)(r:V->Hp->VK->Prop):Prop :=
 ∀(pins:List (Addr×Obj)) (s:Shared) (σ:St) (H:Hp) (x:V) (v:Value) (Q:VK),Inv X pins σ H s->RelV x v->r x H Q ->
  wpAny (model X.prog X.w) X.A (f v) (EP X pins σ Q) X.xe s
noncomputable def bS (X:Cx)(f:Value)(r:List V->Hp->VK->Prop):Prop :=
 ∀(pins:List (Addr×Obj)) (s:Shared) (σ:St) (H:Hp) (xs:List V) (us:List Value) (Q:VK),Inv X pins σ H s->Vals xs us->r xs H Q ->
  wpAny (model X.prog X.w) X.A (call f us) (EP X pins σ Q) X.xe s
noncomputable def Nv (X:Cx)(r:V->Hp->(Bool->Hp->Prop)->Prop):Prop :=
 ∀(pins:List (Addr×Obj)) (s:Shared) (σ:St) (H:Hp) (x:V) (v:Value) (Q:Bool->Hp->Prop),Inv X pins σ H s->RelV x v->r x H Q ->
  wpAny (model X.prog X.w) X.A (truthy v) (TP X pins σ Q) X.xe s
noncomputable def uy (r:R2)(ta tb:TE):TE:=λσ H Q=>ta σ H λx H1=>tb σ H1 λy H2=>r x y H2 Q
noncomputable def Qh (r:V->Hp->VK->Prop)(ta:TE):TE:=λσ H Q=>ta σ H λx H1=>r x H1 Q
noncomputable def rI (C:Int->Int->Prop)(g:Int->Int->V):R2:=λx y H Q=>∃i j,x = .int i/\y = .int j/\C i j/\Q (g i j) H
noncomputable def ly (g:Int->Int->V):R2:=λx y H Q=>∃i j,x = .int i/\y = .int j/\Q (g i j) H
noncomputable def rU (g:Int->V):V->Hp->VK->Prop:=λx H Q=>∃i,x = .int i/\Q (g i) H
section
variable {X:Cx}{a b c:Expr}{ta tb tc:TE}{pos:Pos}
theorem AA (ha:PE X a ta)(hb:PE X b tb){pins:List (Addr×Obj)}{s:Shared}{σ:St}{H:Hp}{R:V->V->Hp->Prop}(I:Inv X pins σ H s)
  (h:ta σ H λx H1=>tb σ H1 λy H2=>R x y H2) {Q:Value->Shared->Prop} {f:Value->Value->Sem Value}
  (hf:∀v u s2 x y H2,Inv X pins σ H2 s2->RelV x v->RelV y u->R x y H2->wpAny (model X.prog X.w) X.A (f v u) Q X.xe s2):
  wpAny (model X.prog X.w) X.A (eval a X.env) (λv s₁=>wpAny (model X.prog X.w) X.A (eval b X.env) (λu s₂=>wpAny (model X.prog X.w) X.A (f v u) Q X.xe s₂) X.xe s₁) X.xe s:=by
 refine aT (ha pins s σ H _ I h) λv s1 ⟨x,H1,I1,r1,q1⟩=>?_
 refine aT (hb pins s1 σ H1 _ I1 q1) λu s2 ⟨y,H2,I2,r2,q2⟩=>?_
 exact hf v u s2 x y H2 I2 r1 r2 q2
theorem Kt {op:Operator}{r:R2}(ho:aX X (binaryOp op) r)(ha:PE X a ta)(hb:PE X b tb):PE X (.BinOp a op b pos) (uy r ta tb):=by
 intro pins s σ H Q I h
 exact wpAny_BinOp (AA ha hb I h λv u s2 x y H2 I2 rx ry q=>ho pins s2 σ H2 x y v u Q I2 rx ry q)
theorem Ku {op:UnaryOp}{r:V->Hp->VK->Prop}(ho:xP X (unaryOp op) r)(ha:PE X a ta):PE X (.UnaryOp op a pos) (Qh r ta):=by
 intro pins s σ H Q I h
 exact UnaryOp_ (aT (ha pins s σ H _ I h) λv s1 ⟨x,H1,I1,r1,q1⟩=>ho pins s1 σ H1 x v Q I1 r1 q1)
theorem B6 {f:Value->Value->Sem Value}{C:Int->Int->Prop}{g:Int->Int->Int}
  (rule:∀(i j:Int) (t u:Tok) (s:Shared) (Q:Value->Shared->Prop) (E:Value->Shared->Prop),C i j->Q (.int (g i j) s.toks) { s with toks:=s.toks+1 }->wpAny (model X.prog X.w) X.A (f (.int i t) (.int j u)) Q E s):
  aX X f (rI C λi j=>.int (g i j)):=by
 intro pins s σ H x y v u Q I rx ry h
 obtain⟨i,j,rfl,rfl,hc,q⟩:=h
 obtain⟨t,rfl⟩:=rx
 obtain⟨t',rfl⟩:=ry
 exact rule i j t t' s _ _ hc ⟨.int (g i j),H,I.tok _,⟨_,rfl⟩,q⟩
theorem Gj {f:Value->Value->Sem Value}{g:Int->Int->Int}
  (rule:∀(i j:Int) (t u:Tok) (s:Shared) (Q:Value->Shared->Prop) (E:Value->Shared->Prop),Q (.int (g i j) s.toks) { s with toks:=s.toks+1 }->wpAny (model X.prog X.w) X.A (f (.int i t) (.int j u)) Q E s):
  aX X f (ly λi j=>.int (g i j)):=by
 intro pins s σ H x y v u Q I rx ry h
 obtain⟨i,j,rfl,rfl,q⟩:=h
 obtain⟨t,rfl⟩:=rx
 obtain⟨t',rfl⟩:=ry
 exact rule i j t t' s _ _ ⟨.int (g i j),H,I.tok _,⟨_,rfl⟩,q⟩
theorem vR {f:Value->Value->Sem Value}{g:Int->Int->Bool}
  (rule:∀(i j:Int) (t u:Tok) (s:Shared) (Q:Value->Shared->Prop) (E:Value->Shared->Prop),Q (.bool (g i j)) s->wpAny (model X.prog X.w) X.A (f (.int i t) (.int j u)) Q E s):
  aX X f (ly λi j=>.bl (g i j)):=by
 intro pins s σ H x y v u Q I rx ry h
 obtain⟨i,j,rfl,rfl,q⟩:=h
 obtain⟨t,rfl⟩:=rx
 obtain⟨t',rfl⟩:=ry
 exact rule i j t t' s _ _ ⟨.bl (g i j),H,I,rfl,q⟩
def Nw (i j:Int):Prop:=0<j/\j<1073741824
def Nx (i j:Int):Prop:=0<=j/\j<=1000000/\i.natAbs<2 ^ 64
def AB (i j:Int):Prop:=(-(2 ^ 64)<i/\i<2 ^ 64)\/(-(2 ^ 64)<j/\j<2 ^ 64)
theorem AB.ok {i j:Int}(h:AB i j):IntMulOk i j:=by
 rcases h with⟨h1,h2⟩|⟨h1,h2⟩
 . exact .of_left (intBits_le_64 h1 h2)
 . exact .of_right (intBits_le_64 h1 h2)
theorem Gk:aX X (binaryOp .Add) (ly λi j=>.int (i+j)):=Gj λ_ _ _ _ _ _ _ q=>add_int q
theorem Gm:aX X (binaryOp .Sub) (ly λi j=>.int (i-j)):=Gj λ_ _ _ _ _ _ _ q=>sub_int q
theorem Gn:aX X (binaryOp .Mult) (rI AB λi j=>.int (i*j)):=B6 λ_ _ _ _ _ _ _ hc q=>mul_int q hc.ok
theorem DJ:aX X (binaryOp .FloorDiv) (rI Nw λi j=>.int (i / j)):=B6 λi j _ _ _ _ _ hc q=>by
 have h1:(0:Int)<j:=hc.1
 have h2:j<1073741824:=hc.2
 exact floordiv_int (by omega) (by rw[Int.fdiv_eq_ediv_of_nonneg i (by omega)];exact q) (.inl (PyProof.noPylong_small (by omega)))
theorem Gp:aX X (binaryOp .Mod) (rI (λ_ j=>0<j) λi j=>.int (i % j)):=B6 λi j _ _ _ _ _ hc q=>by
 have h1:(0:Int)<j:=hc
 exact mod_int' (by omega) (by rw[Int.fmod_eq_emod_of_nonneg i (by omega)];exact q)
theorem Gq:aX X (binaryOp .Pow) (rI Nx λi j=>.int (i ^ j.toNat)):=B6 λ_ _ _ _ _ _ _ hc q=>pow_int_small hc.1 hc.2.1 hc.2.2 q
theorem Qi {f:Value->Sem Value}{g:Int->Int}
  (rule:∀(i:Int) (t:Tok) (s:Shared) (Q:Value->Shared->Prop) (E:Value->Shared->Prop),Q (.int (g i) s.toks) { s with toks:=s.toks+1 }->wpAny (model X.prog X.w) X.A (f (.int i t)) Q E s):
  xP X f (rU λi=>.int (g i)):=by
 intro pins s σ H x v Q I rx h
 obtain⟨i,rfl,q⟩:=h
 obtain⟨t,rfl⟩:=rx
 exact rule i t s _ _ ⟨.int (g i),H,I.tok _,⟨_,rfl⟩,q⟩
theorem Gr:xP X (unaryOp .USub) (rU λi=>.int (-i)):=Qi λ_ _ _ _ _ q=>neg_int q
end
section
variable {X:Cx}{a b c:Expr}{ta tb tc:TE}{pos:Pos}
theorem xQ {pins:List (Addr×Obj)}{σ:St}{H:Hp}{s:Shared}{Q:VK}{k k':Bool}(I:Inv X pins σ H s)(q:Q (.bl k) H)(e:k=k'):EP X pins σ Q (.bool k') s:=by
 subst e
 exact⟨.bl k,H,I,rfl,q⟩
theorem Kv:aX X (compareOp .Lt) (ly λi j=>.bl (decide (i<j))):=vR λ_ _ _ _ _ _ _ q=>lt_int q
theorem Kw:aX X (compareOp .LtE) (ly λi j=>.bl (decide (i<=j))):=vR λ_ _ _ _ _ _ _ q=>le_int q
theorem Kx:aX X (compareOp .Gt) (ly λi j=>.bl (decide (j<i))):=vR λ_ _ _ _ _ _ _ q=>gt_int q
theorem Ky:aX X (compareOp .GtE) (ly λi j=>.bl (decide (j<=i))):=vR λ_ _ _ _ _ _ _ q=>ge_int q
theorem Gs:aX X (compareOp .Is) (λx y H Q=>y = .ao/\Q (.bl (decide (x = .ao))) H):=by
 intro pins s σ H x y v u Q I rx ry h
 obtain⟨rfl,q⟩:=h
 cases ry
 refine is_none_gen (xQ I q ?_)
 cases x<;>first
  | (cases rx;rfl)
  | (obtain⟨t,rfl⟩:=rx;rfl)
theorem DL:aX X (compareOp .IsNot) (λx y H Q=>y = .ao/\Q (.bl (!decide (x = .ao))) H):=by
 intro pins s σ H x y v u Q I rx ry h
 obtain⟨rfl,q⟩:=h
 cases ry
 refine isnot_none_gen (xQ I q ?_)
 cases x<;>first
  | (cases rx;rfl)
  | (obtain⟨t,rfl⟩:=rx;rfl)
theorem nM {op:CmpOp}{r:R2}(ho:aX X (compareOp op) r)(ha:PE X a ta)(hb:PE X b tb)(hm:behindInMarks op b=false):PE X (.Compare a [op] [b] pos) (uy r ta tb):=by
 intro pins s σ H Q I h
 exact wpAny_Compare1 (AA ha hb I h λv u s2 x y H2 I2 rx ry q=>ho pins s2 σ H2 x y v u Q I2 rx ry q) hm
noncomputable def pP (t:TE):TT:=λσ H Q=>t σ H λx H'=>∃k,x = .bl k/\Q k H'
theorem nO {op:CmpOp}{r:R2}(ho:aX X (compareOp op) r)(ha:PE X a ta)(hb:PE X b tb)(hm:behindInMarks op b=false):PT X (.Compare a [op] [b] pos) (pP (uy r ta tb)):=by
 intro pins s σ H Q I h
 refine wpAny_isTrue_Compare1 (aT (ha pins s σ H _ I h) λv s1 ⟨x,H1,I1,r1,q1⟩=>aT (hb pins s1 σ H1 _ I1 q1) λu s2 ⟨y,H2,I2,r2,q2⟩=>
  aT (ho pins s2 σ H2 x y v u _ I2 r1 r2 q2) λc s3 ⟨z,H3,I3,r3,k,e,q3⟩=>?_) hm
 subst e
 cases r3
 exact wpAny_truthy_bool ⟨H3,I3,q3⟩
noncomputable def AD (K:PySem.W.Frag)(x:V)(H:Hp)(k:Bool):Prop :=
 match x with
 |.ao=>k=false
 |.bl b=>k=b
 |.int i=>k=(i != 0)
 |.str y=>y.length<=sizeLine/\k=((y.length:Int) != 0)
 |.xB y=>y.size<=sizeLine/\k=((y.size:Int) != 0)
 |.ref p=>(∃xs,b7 K H p xs/\k = !xs.isEmpty)\/(∃xs,da K H p xs/\k = !xs.isEmpty) \/ ∃cz,H p=some (.dK cz)/\k = !cz.isEmpty
 |_=>False
theorem vS {κ:Type}{cz:List (κ×V)}{vs:List (κ×Value)}(r:KV cz vs):(!vs.isEmpty)= !cz.isEmpty:=by
 cases r<;>rfl
theorem my {xs:List V}{ah:List Value}(r:Vals xs ah):(!ah.toArray.isEmpty)= !xs.isEmpty:=by
 cases r<;>simp
theorem iE:(sizeLine:Nat)<2 ^ 63:=by rw[sizeLine_eq];decide
theorem Gu:Nv X (λx H Q=>∃k,AD X.K x H k/\Q k H):=by
 intro pins s σ H x v Q I rx h
 obtain⟨k,e,q⟩:=h
 have hl:=iE
 have hs:sizeLine=16777216:=sizeLine_eq
 cases x with
 |ao =>
  cases rx
  have e':k=false:=e
  subst e'
  exact truthy_none ⟨H,I,q⟩
 |bl b =>
  cases rx
  have e':k=b:=e
  subst e'
  exact wpAny_truthy_bool ⟨H,I,q⟩
 |int i =>
  obtain⟨t,rfl⟩:=rx
  have e':k=(i != 0):=e
  subst e'
  exact PySem.P.truthy_int ⟨H,I,q⟩
 |str y =>
  obtain⟨t,rfl⟩:=rx
  obtain⟨hy,e'⟩:y.length<=sizeLine/\k=((y.length:Int) != 0):=e
  subst e'
  exact PySem.P.truthy_str (by omega) ⟨H,I.tok _,q⟩
 |xB y =>
  obtain⟨t,rfl⟩:=rx
  obtain⟨hy,e'⟩:y.size<=sizeLine/\k=((y.size:Int) != 0):=e
  subst e'
  exact PySem.W.truthy_bytes (by omega) ⟨H,I.tok _,q⟩
 |ref p =>
  cases rx
  have e':(∃xs,b7 X.K H p xs/\k = !xs.isEmpty)\/(∃xs,da X.K H p xs/\k = !xs.isEmpty) \/ ∃cz,H p=some (.dK cz)/\k = !cz.isEmpty:=e
  rcases e' with⟨xs,hx,e'⟩|⟨xs,hx,e'⟩|⟨cz,hx,e'⟩
  . subst e'
    obtain⟨ah,r,pl,hz⟩:=I.list hx
    have hlen:=r.length
    exact wpAny_truthy_list pl.isList (by simp only[List.size_toArray];omega) ⟨H,I.tok _,by rw[my r];exact q⟩
  . subst e'
    obtain⟨ah,r,pl,hz⟩:=I.tuple hx
    have hlen:=r.length
    exact truthy_tuple pl (by simp only[List.size_toArray];omega) ⟨H,I.tok _,by rw[my r];exact q⟩
  . subst e'
    obtain⟨hz,hS,vs,r,m⟩:cz.length<=sizeLine/\(p == sysModules)=false /\ ∃vs,KV cz vs/\s.heap.DictOf (cO X.prog X.w) p vs:=I.aV p _ hx
    have hlen:cz.length=vs.length:=Paired.length r
    exact wpAny_truthy_dict hS m (by omega) ⟨H,I.tok _,by rw[vS r];exact q⟩
 |_=>exact(show False from e).elim
theorem AE (ha:PE X a ta)(he:∀whole,isTrue a X.env whole=(do let v <- whole;standAt a.pos;holding [v] (truthy v))):
  PT X a (λσ H Q=>ta σ H λx H'=>∃k,AD X.K x H' k/\Q k H'):=by
 intro pins s σ H Q I h
 exact isTrue_plain (aT (ha pins s σ H _ I h) λv s1 ⟨x,H1,I1,r1,q1⟩=>Gu pins s1 σ H1 x v Q I1 r1 q1) (he _)
theorem vT:aX X (binaryOp .Add) (λx y H Q=>∃i j,x = .str i/\y = .str j/\i.length+j.length<=sizeLine/\Q (.str (i++j)) H):=by
 intro pins s σ H x y v u Q I rx ry h
 obtain⟨i,j,rfl,rfl,hz,q⟩:=h
 obtain⟨t,rfl⟩:=rx
 obtain⟨t',rfl⟩:=ry
 exact add_str (λt' tk=>⟨.str (i++j),H,I.tok _,⟨_,rfl⟩,q⟩) hz
theorem vals1 {x:V}{us:List Value}(r:Vals [x] us):∃u,us = [u]/\RelV x u:=by
 cases r with
 |cons r1 r2=>cases r2;exact⟨_,rfl,r1⟩
theorem vals2 {x y:V}{us:List Value}(r:Vals [x,y] us):∃u w',us = [u,w']/\RelV x u/\RelV y w':=by
 cases r with
 |cons r1 r2 =>
  cases r2 with
  |cons r3 r4=>cases r4;exact⟨_,_,rfl,r1,r3⟩
theorem xR (hc:X.calm=true):bS X (.builtin "max") (λxs H Q=>∃i j,xs = [.int i,.int j]/\Q (.int (if j>i then j else i)) H):=by
 intro pins s σ H xs us Q I r h
 obtain⟨i,j,rfl,q⟩:=h
 obtain⟨u,w',rfl,⟨t,rfl⟩,⟨t',rfl⟩⟩:=vals2 r
 refine max_two_ints (I.ok.hd hc) λh' tk k=>⟨_,H,I.kept k,?_,q⟩
 by_cases hj:j>i
 . rw[if_pos hj,if_pos hj];exact⟨_,rfl⟩
 . rw[if_neg hj,if_neg hj];exact⟨_,rfl⟩
theorem xS (hc:X.calm=true):bS X (.builtin "min") (λxs H Q=>∃i j,xs = [.int i,.int j]/\Q (.int (if j<i then j else i)) H):=by
 intro pins s σ H xs us Q I r h
 obtain⟨i,j,rfl,q⟩:=h
 obtain⟨u,w',rfl,⟨t,rfl⟩,⟨t',rfl⟩⟩:=vals2 r
 refine min_two_ints (I.ok.hd hc) λh' tk k=>⟨_,H,I.kept k,?_,q⟩
 by_cases hj:j<i
 . rw[if_pos hj,if_pos hj];exact⟨_,rfl⟩
 . rw[if_neg hj,if_neg hj];exact⟨_,rfl⟩
theorem oH:bS X (.type "int") (λxs H Q=>(∃i,xs = [.int i]/\Q (.int i) H) \/ ∃k,xs = [.bl k]/\Q (.int (if k then 1 else 0)) H):=by
 intro pins s σ H xs us Q I r h
 rcases h with⟨i,rfl,q⟩|⟨k,rfl,q⟩
 . obtain⟨u,rfl,t,rfl⟩:=vals1 r
   exact call_int_int ⟨.int i,H,I,⟨_,rfl⟩,q⟩
 . obtain⟨u,rfl,r1⟩:=vals1 r
   cases r1
   exact call_int_bool ⟨.int (if k then 1 else 0),H,I.tok _,⟨_,rfl⟩,q⟩
end
structure b9 (k:Nat)(A:Around):Prop where
 hd:A.handled=none
 dp:A.depth+3*k+5<recursionLimit
 un:A.units+16*k+200<cLine
 gd:A.guards=some []
theorem b9.deeper {k:Nat}{A:Around}(r:b9 (k+1) A)(env:Env):b9 k (A.deeper env):=
 ⟨r.hd,by have:=r.dp;show A.depth+1+3*k+5<_;omega,by have:=r.un;show A.units+3+16*k+200<_;omega,by first|exact r.gd| (simp[Around.deeper];exact r.gd)⟩
theorem b9.depth {k:Nat}{A:Around}(r:b9 k A):A.depth<recursionLimit:=by have:=r.dp;omega
theorem b9.units {k:Nat}{A:Around}(r:b9 k A):A.units+64<cLine:=by have:=r.un;omega
noncomputable def Gv:TA:=λ_ H Q=>Q [] H
noncomputable def Kz (ta:TE)(tr:TA):TA:=λσ H Q=>ta σ H λx H1=>tr σ H1 λxs H2=>Q (x::xs) H2
section
variable {X:Cx}{e:Expr}{es:List Expr}{te:TE}{t:TA}{pos:Pos}
theorem mz:PA X [] Gv:=λ_ _ _ _ H Q I h=>Calls.spliced_nil ⟨[],H,I,.nil,h⟩
theorem iF (ha:PE X e te)(hr:PA X es t)(hs:starEach (e::es) X.env=(false,eval e X.env)::starEach es X.env:=by rfl):PA X (e::es) (Kz te t):=by
 intro pos pins s σ H Q I h
 rw[hs]
 show wpAny _ _ (spliced ((false,eval e X.env)::backTo pos (starEach es X.env))) _ _ s
 refine Calls.spliced_cons (aT (ha pins s σ H _ I h) λu s1 ⟨x,H1,I1,r1,q1⟩=>?_)
 exact aT (hr pos pins s1 σ H1 _ I1 q1) λus s2 ⟨xs,H2,I2,r2,q2⟩=>⟨x::xs,H2,I2,.cons r1 r2,q2⟩
noncomputable def Ny (t:TA):TE:=λσ H Q=>t σ H λxs H1=>xs.length<=sizeLine /\ ∀p,H1 p=none->Q (.ref p) (upd H1 p (.tup xs))
noncomputable def Nz (t:TA):TE:=λσ H Q=>t σ H λxs H1=>xs.length<=sizeLine /\ ∀p,H1 p=none->Q (.ref p) (upd H1 p (.lst xs))
theorem Gw {x1}(h:PA X es t):PE X (.Tuple es x1 pos) (Ny t):=by
 intro pins s σ H Q I hq
 refine wpAny_Tuple_spliced (aT (h pos pins s σ H _ I hq) λus s1 ⟨xs,H1,I1,r,z,q⟩=>⟨by rw[<- r.length];exact z,?_⟩)
 have hf:H1 s1.heap.objs.size=none:=I1.aV.fresh (Nat.le_refl _)
 refine⟨.ref s1.heap.objs.size,upd H1 s1.heap.objs.size (.tup xs),I1.laid (t':=s1.toks) (λb u e=>Heap.get?_push_of_some _ e) (Nat.le_refl _) ?_,rfl,q _ hf⟩
 exact⟨z,us,r,⟨_,Heap.get?_push_size _ rfl,rfl,⟨_,rfl⟩,rfl⟩⟩
theorem xU (h:PA X es t):PE X (.List es pos) (Nz t):=by
 intro pins s σ H Q I hq
 refine wpAny_List_spliced (aT (h pos pins s σ H _ I hq) λus s1 ⟨xs,H1,I1,r,z,q⟩=>⟨by rw[<- r.length];exact z,?_⟩)
 have hf:H1 s1.heap.objs.size=none:=I1.aV.fresh (Nat.le_refl _)
 refine⟨.ref s1.heap.objs.size,upd H1 s1.heap.objs.size (.lst xs),I1.laid (t':=s1.toks) (λb u e=>Heap.get?_push_of_some _ e) (Nat.le_refl _) ?_,rfl,q _ hf⟩
 exact⟨z,us,0,r,Heap.get?_push_size _ rfl⟩
end
abbrev Sp:=List V->Hp->VK->XK->Prop
abbrev jX:=List Env->Hp->Shared->XK->Value->Shared->Prop
structure vU (P:Program)(w:World)(K:PySem.W.Frag)(mg:Str->Option Value)(base:Heap)(A:Around)(outer:List Env)(s:Shared)(H:Hp):Prop where
 frames:A.frames=some outer
 mod:Mod K mg base
 bs:∀b o,base.get? b=some o->s.heap.get? b=some o/\H b=none
 oD:base.objs.size<=s.heap.objs.size
 gC:s.heap.FunFrames base outer
 um:∀b∈jE outer,H b=none
 aV:dh P w H s.heap
 bare:AllBare s.gens
noncomputable def CE (outer:List Env)(P:Program)(w:World)(H:Hp)(s:Shared)(Q:VK)(u:Value)(s':Shared):Prop :=
 ∃v H',s'.os=s.os/\AllBare s'.gens/\Un (jE outer) [] H H' s.heap s'.heap/\dh P w H' s'.heap/\RelV v u/\Q v H'
noncomputable def CR (CX:jX)(outer:List Env)(P:Program)(w:World)(H:Hp)(s:Shared)(Q:VK)(E:XK)(r:Result)(s':Shared):Prop :=
 match r with
 |.ok (.ret u)=>CE outer P w H s Q u s'
 |.ok _=>False
 |.error e=>CX outer H s E e s'
structure cC (P:Program)(w:World)(K:PySem.W.Frag)(mg:Str->Option Value)(base:Heap)(CX:jX)(k:Nat)(f:Addr)(fd:FuncData)(ps:List Str)(sp:Sp):Prop where
 len:∀vs H Q E,sp vs H Q E->vs.length=ps.length
 run:∀(A:Around) (outer:List Env) (s:Shared) (H:Hp) (args:Args) (us:List Value) (vs:List V) (Q:VK) (E:XK),b9 k A->vU P w K mg base A outer s H->BindsTo s fd args (ps.zip us)->Vals vs us->sp vs H Q E ->
  codeAny (model P w) A (.call (.ref f) args) (CR CX outer P w H s Q E) s
theorem cC.imp {P:Program}{w:World}{K:PySem.W.Frag}{mg:Str->Option Value}{base:Heap}{CX:jX}{k:Nat}{f:Addr}{fd:FuncData}{ps:List Str}{sp LP:Sp}(F:cC P w K mg base CX k f fd ps sp)
  (h:∀vs H Q E,LP vs H Q E->sp vs H Q E):cC P w K mg base CX k f fd ps LP :=
 ⟨λvs H Q E q=>F.len vs H Q E (h _ _ _ _ q),λA outer s H args us vs Q E hr he hb hv hs=>F.run A outer s H args us vs Q E hr he hb hv (h _ _ _ _ hs)⟩
section
variable {X:Cx}{pins:List (Addr×Obj)}{σ:St}{H:Hp}{s s':Shared}
theorem Inv.NA (I:Inv X pins σ H s):vU X.prog X.w X.K X.mg X.base X.A X.stack s H :=
 ⟨I.ok.frames,I.ok.mod,I.bs,Nat.le_trans I.ok.oD I.sz,I.stack,I.uo,I.aV,I.bare⟩
theorem Inv.after {Q:VK}{u:Value}(I:Inv X pins σ H s)(h:CE X.stack X.prog X.w H s Q u s'):EP X pins σ Q u s':=by
 obtain⟨v,H',os,bare,un,aV,r,q⟩:=h
 obtain⟨hh,g,d,t,xV⟩:=s'
 obtain rfl:xV=s.os:=os
 exact⟨v,H',I.call (h':=hh) (g':=g) (d':=d) (t':=t) (ch:=[]) un aV bare (λb z=>absurd z (by simp)),r,q⟩
end
noncomputable def vV (sp:Sp)(lz:List V)(E:XK)(t:TA):TE:=λσ H Q=>t σ H λvs H1=>sp (vs++lz) H1 Q E
noncomputable def Binds (K:PySem.W.Frag)(fd:FuncData)(ps:List Str)(ds:List Value):Prop :=
 ∀(s:Shared) (us:List Value),K.In s.heap->(us++ds).length=ps.length->BindsTo s fd ⟨us,[]⟩ (ps.zip (us++ds))
theorem Binds.all {K:PySem.W.Frag}{fd:FuncData}{ps:List Str}(h:∀us:List Value,us.length=ps.length->bindArgs fd ⟨us,[]⟩=pure (ps.zip us)):Binds K fd ps []:=λs us _ hl=>by
 rw[List.append_nil]at hl ⊢
 exact .of_eq (h us hl)
def Passes (CX:jX)(X:Cx)(E:XK):Prop:=∀(pins:List (Addr×Obj)) (σ:St) (H:Hp) (s:Shared) (e:Value) (s':Shared),Inv X pins σ H s->CX X.stack H s E e s'->X.xe e s'
section
variable {X:Cx}{CX:jX}{k:Nat}{f C:Addr}{fd:FuncData}{ps:List Str}{sp:Sp}{lz:List V}{ds:List Value}{E:XK}{x m:Str}{p pos apos:Pos}{e o:Expr}{es:List Expr}{ta:TE}{t:TA}
theorem xW {pins:List (Addr×Obj)}{σ:St}{H:Hp}{s:Shared}{Q:VK}{us:List Value}{vs:List V}(F:cC X.prog X.w X.K X.mg X.base CX k f fd ps sp)(hr:b9 k X.A)(hb:Binds X.K fd ps ds)(hd:Vals lz ds)(hx:Passes CX X E)
  (I:Inv X pins σ H s) (r:Vals vs us) (h:sp (vs++lz) H Q E):wpAny (model X.prog X.w) X.A (call (.ref f) us) (EP X pins σ Q) X.xe s:=by
 have r2:Vals (vs++lz) (us++ds):=r.append hd
 have hl:(us++ds).length=ps.length:=by rw[<- r2.length];exact F.len _ _ _ _ h
 refine wpAny_call (codeAny_mono (F.run X.A X.stack s H ⟨us,[]⟩ (us++ds) (vs++lz) Q E hr I.NA (hb s us I.dB hl) r2 h) λr s' hq=>?_)
 cases r with
 |error e=>exact hx pins σ H s e s' I hq
 |ok fl =>
  cases fl with
  |ret u=>exact I.after hq
  |next=>exact False.elim hq
  |brk=>exact False.elim hq
  |cont=>exact False.elim hq
theorem DM (F:cC X.prog X.w X.K X.mg X.base CX k f fd ps sp)(hr:b9 k X.A)(hg:Gl X x)(hm:X.mg x=some (.ref f))(hk:PySem.W.keepIn X.K (.ref f)=true)(hb:Binds X.K fd ps ds)(hd:Vals lz ds)(hx:Passes CX X E)
  (ha:PA X (e::es) t) (gG:(x == ("__debug__":Str))=false:=by decide) (he:starEach (e::es) X.env=(false,eval e X.env)::starEach es X.env:=by rfl) (hJ:(backTo pos (starEach es X.env)).any (·.1)=false:=by rfl):
  PE X (.Call (.Name x p) (e::es) [] pos) (vV sp lz E t):=by
 intro pins s σ H Q I h
 refine wpAny_Call_Name_kw (nL I hg hm ?_ gG)
 refine PySem.W.callWith_K (h₀:=X.base) I.ok.mod.FP hk (aT (ha pos pins s σ H _ I h) λus s1 ⟨vs,H1,I1,r,q⟩=>⟨I1.dB,?_⟩) he hJ
 exact xW F hr hb hd hx I1 r q
theorem AF (F:cC X.prog X.w X.K X.mg X.base CX k f fd ps sp)(hr:b9 k X.A)(hg:Gl X x)(hm:X.mg x=some (.ref f))(hk:PySem.W.keepIn X.K (.ref f)=true)(hb:Binds X.K fd ps ds)(hd:Vals lz ds)(hx:Passes CX X E)
  (gG:(x == ("__debug__":Str))=false:=by decide):PE X (.Call (.Name x p) [] [] pos) (vV sp lz E Gv):=by
 intro pins s σ H Q I h
 refine wpAny_Call_Name_kw (nL I hg hm ?_ gG)
 exact PySem.W.callWith_K0 I.dB hk (xW (us:=[]) F hr hb hd hx I .nil h)
structure Mk (K:PySem.W.Frag)(C f:Addr):Prop where
 makes:PySem.W.makesIn K C=true
 init:PySem.W.findIn K (.ref C) "__init__" = some (some (.ref f))
 fn:PySem.W.isFn K (.ref f)=true
 kp:PySem.W.keepIn K (.ref C)=true
end
structure gu (N P:List Str)(sc:Scope):Prop where
 kind:sc.kind = .function
 co:sc.isCoroutine=false
 gen:sc.isGenerator=false
 nd:N.Nodup
 pre:N.take P.length=P
 par:∀x∈P,sc.names.lookup x=some .local\/sc.names.lookup x=some .cell
 Gx:∀y∈sc.names,y.2 ≠ .free
theorem oI {kindOf:Str->Option NameKind}{x:Str}:∀{binds:List (Str×Value)} {m:Str->Option Value},(∀v,(x,v) ∉ binds)->bindL kindOf binds m x=m x
 | [],_,_=>rfl
 | (n,v)::r,m,h=>by
  unfold bindL
  rw[oI λw hw=>h w (List.mem_cons_of_mem _ hw)]
  split
  . have:x≠n:=by rintro rfl;exact h v List.mem_cons_self
    simp[this]
  . rfl
theorem oJ {kindOf:Str->Option NameKind}{x:Str}:∀{binds:List (Str×Value)} {m:Str->Option Value},(∀v,(x,v) ∉ binds)->bindC kindOf binds m x=m x
 | [],_,_=>rfl
 | (n,v)::r,m,h=>by
  unfold bindC
  rw[oJ λw hw=>h w (List.mem_cons_of_mem _ hw)]
  split
  . rfl
  . have:x≠n:=by rintro rfl;exact h v List.mem_cons_self
    simp[this]
theorem oK {kindOf:Str->Option NameKind}{x:Str}{v:Value}:∀{P:List Str} {vs:List Value} {i:Nat} {m:Str->Option Value},P.Nodup->P[i]? = some x->vs[i]? = some v->kindOf x=some .local ->
  bindL kindOf (P.zip vs) m x=some v
 | [],_,_,_,_,h,_,_=>by simp at h
 |_::_,[],_,_,_,_,h,_=>by simp at h
 |p::P,w::vs,0,m,nd,h1,h2,hk=>by
  simp at h1 h2;subst h1;subst h2
  show bindL kindOf ((p,w)::P.zip vs) m p=_
  unfold bindL
  rw[oI λv hv=>(List.nodup_cons.mp nd).1 (List.of_mem_zip hv).1,if_pos hk]
  simp
 |p::P,w::vs,i+1,m,nd,h1,h2,hk=>by
  show bindL kindOf ((p,w)::P.zip vs) m x=_
  unfold bindL
  exact oK (i:=i) (List.nodup_cons.mp nd).2 (by simpa using h1) (by simpa using h2) hk
theorem oM {kindOf:Str->Option NameKind}{x:Str}{v:Value}:∀{P:List Str} {vs:List Value} {i:Nat} {m:Str->Option Value},P.Nodup->P[i]? = some x->vs[i]? = some v->kindOf x≠some .local ->
  bindC kindOf (P.zip vs) m x=some v
 | [],_,_,_,_,h,_,_=>by simp at h
 |_::_,[],_,_,_,_,h,_=>by simp at h
 |p::P,w::vs,0,m,nd,h1,h2,hk=>by
  simp at h1 h2;subst h1;subst h2
  show bindC kindOf ((p,w)::P.zip vs) m p=_
  unfold bindC
  rw[oJ λv hv=>(List.nodup_cons.mp nd).1 (List.of_mem_zip hv).1,if_neg hk]
  simp
 |p::P,w::vs,i+1,m,nd,h1,h2,hk=>by
  show bindC kindOf ((p,w)::P.zip vs) m x=_
  unfold bindC
  exact oM (i:=i) (List.nodup_cons.mp nd).2 (by simpa using h1) (by simpa using h2) hk
noncomputable def start (N:List Str)(vs:List V):St:=vs.map some++List.replicate (N.length-vs.length) none
noncomputable def jY (CX:jX)(P:Program)(w:World)(K:PySem.W.Frag)(mg:Str->Option Value)(base:Heap)(N:List Str)(qual:Str)(scope:Scope)(f:Addr)(cd:Value)(A:Around)(outer:List Env)(s:Shared)(H:Hp)(E:XK):Cx where
 prog:=P
 w:=w
 K:=K
 mg:=mg
 base:=base
 A:=A.deeper (envOfC qual scope s.heap.objs.size f cd)
 N:=N
 s₀:=s
 H₀:=H
 env:=envOfC qual scope s.heap.objs.size f cd
 outer:=outer
 stack:=envOfC qual scope s.heap.objs.size f cd::outer
 ex:=[]
 calm:=true
 fn:=λ_=>true
 pn:=[]
 xe:=λe s'=>wpAny (model P w) (A.deeper (envOfC qual scope s.heap.objs.size f cd)) (leaving (envOfC qual scope s.heap.objs.size f cd) e) (λ_ qA=>CX outer H s E e qA) (λe' qA=>CX outer H s E e' qA) s'
theorem qB {sc:Scope}{n:Nat}{x:Str}(h:sc.names.lookup x=some .cell):∃c,(cellsFrom n sc.names []).lookup x=some c:=by
 have q:=PySem.W.cellsFrom_some sc.names n [] (.inl h)
 exact Option.isSome_iff_exists.mp q
theorem xX {CX:jX}{P:Program}{w:World}{K:PySem.W.Frag}{mg:Str->Option Value}{base:Heap}{N ps:List Str}{qual:Str}{scope:Scope}{f:Addr}{cd:Value}{A:Around}{outer:List Env}{s s1:Shared}{H:Hp}{E:XK}{us:List Value}{vs:List V}
   (S:gu N ps scope) (hd:A.handled=none) (e0:vU P w K mg base A outer s H) (hl:vs.length=ps.length) (r:Vals vs us)
   (x:InCallC s s.heap.objs.size (bindL (envOfC qual scope s.heap.objs.size f cd).kindOf (ps.zip us) λ_=>none) (cellsFrom (s.heap.objs.size+1) scope.names []) (bindC (envOfC qual scope s.heap.objs.size f cd).kindOf (ps.zip us) λ_=>none) s1):
   Inv (jY CX P w K mg base N qual scope f cd A outer s H E) [] (start N vs) H s1:=by
 have hJ:ps.length<=N.length:=by have:=congrArg List.length S.pre;rw[List.length_take]at this;omega
 obtain⟨h1,tk,rfl,hk⟩:=x.done
 have xY:∀b:Addr,b ∉ (jY CX P w K mg base N qual scope f cd A outer s H E).ex:=λb z=>absurd (show b∈([]:List Addr) from z) (by simp)
 refine⟨⟨e0.mod,S.kind,rfl,rfl,Nat.le_refl _,λy z c h1 h2=>?_,λy hy=>?_,λy c _ h=>?_,λ_=>hd,Around.frames_deeper e0.frames,.inr ⟨rfl,rfl⟩,λb z=>absurd z (xY b),e0.bs,e0.oD,λb _ _=>xY b,λb z=>absurd z (xY b),e0.gC,e0.um⟩,
   rfl,e0.bare,Un.kept hk,⟨_,x.toInCall.ns,λi y v h1 h2 h3=>?_⟩,λy c h=>⟨_,x.cell y c h⟩,e0.aV.fresh (Nat.le_refl _),λy c h=>?_,λp hp=>absurd (show p∈([]:List (Addr×Obj)) from hp) (by simp),e0.aV.kept hk,?_⟩
 . exact name_of_addr x.apart (PySem.mem_of_lookup h1) (PySem.mem_of_lookup h2)
 . have hy:scope.names.lookup y=some .cell\/scope.names.lookup y=some .free:=hy
   rcases hy with hy|hy
   . exact qB hy
   . exact absurd rfl (S.Gx _ (PySem.mem_of_lookup hy))
 . exact Nat.le_of_lt (x.above y c (PySem.mem_of_lookup h))
 . have hi:i<vs.length:=by
     unfold start at h2
     by_cases hi:i<vs.length
     . exact hi
     . rw[List.getElem?_append_right (by simpa using hi)]at h2
       rw[List.getElem?_replicate]at h2
       split at h2<;>cases h2
   have ha:vs[i]? = some v:=by
     unfold start at h2
     rw[List.getElem?_append_left (by simpa using hi),List.getElem?_map]at h2
     cases e:vs[i]? with
     |none=>rw[e]at h2;cases h2
     |some a=>rw[e]at h2;cases h2;rfl
   obtain⟨u,hu,rv⟩:=r.get ha
   have hp:ps[i]? = some y:=by
     rw[<- S.pre,List.getElem?_take_of_lt (by omega)];exact h1
   have LQ:ps.Nodup:=by rw[<- S.pre];exact S.nd.sublist (List.take_sublist _ _)
   refine⟨u,rv,?_⟩
   rcases S.par y (List.mem_of_getElem? hp)with k|k
   . exact .inl ⟨k,oK LQ hp hu k⟩
   . obtain⟨c,e⟩:=qB (n:=s.heap.objs.size+1) k
     refine .inr ⟨.inl k,c,e,?_⟩
     have q:=x.cell y c e
     rw[oM LQ hp hu (by show scope.names.lookup y≠_;rw[k];decide)]at q
     exact q
 . exact e0.aV.fresh (Nat.le_of_lt (x.above y c (PySem.mem_of_lookup h)))
 . unfold start
   show _=N.length
   rw[List.length_append,List.length_map,List.length_replicate]
   omega
theorem KA {CX:jX}{P:Program}{w:World}{K:PySem.W.Frag}{mg:Str->Option Value}{base:Heap}{k:Nat}{f:Addr}{name qual:Str}{params:Arguments}{body:List Stmt}{scope:Scope}{dV kV doc pm cP ct oc:Value}{an od:Option Addr}
  {qC:Array (Option Value)} {N ps:List Str} {sp:Sp} (lk:K.lookup f=some ⟨oc,od,.func (PySem.W.fnOf name qual params body scope dV kV doc pm an cP ct),qC⟩) (lu:PySem.W.codeIn K cP qual=true) (S:gu N ps scope)
  (len:∀vs H Q E,sp vs H Q E->vs.length=ps.length)
  (vW:∀(A:Around) (outer:List Env) (s:Shared) (H:Hp) (vs:List V) (Q:VK) (E:XK),b9 k (A.deeper (envOfC qual scope s.heap.objs.size f cP))->sp vs H Q E ->
    ∃t,eM (jY CX P w K mg base N qual scope f cP A outer s H E) body t/\t { nx:=λ_ H'=>Q .ao H',rt:=Q } (start N vs) H):
  cC P w K mg base CX (k+1) f (PySem.W.fnOf name qual params body scope dV kV doc pm an cP ct) ps sp:=by
 refine⟨len,λA outer s H args us vs Q E hr e0 hb r oN=>?_⟩
 have hl:=len _ _ _ _ oN
 have KX:K.In s.heap:=e0.mod.FP.keeps λb o e=>(e0.bs b o e).1
 have lim:s.heap.NoLimit:=e0.mod.nolimit.keeps λb o e=>(e0.bs b o e).1
 have pQ:∀y∈ps.zip us,scope.names.lookup y.1=some .local\/(scope.names.lookup y.1=some .cell/\((cellsFrom (s.heap.objs.size+1) scope.names []).lookup y.1).isSome=true):=λ⟨n,v⟩ hy=>by
  rcases S.par n (List.of_mem_zip hy).1 with q|q
  . exact .inl q
  . exact .inr ⟨q,PySem.W.cellsFrom_some _ _ _ (.inl q)⟩
 refine codeAny_call_function hr.depth (KX _ _ lk) rfl S.co S.gen rfl (PySem.W.codeRec_of KX lu) (hb _ _ _ _ ?_)
 refine wpAny_newFunctionEnv_cells S.kind pQ λenv he s1 x=>?_
 subst he
 refine⟨lim.keeps x.toInCall.keep,codeAny_func ?_⟩
 obtain⟨t,ht,hq⟩:=vW A outer s H vs Q E (hr.deeper _) oN
 have I:Inv (jY CX P w K mg base N qual scope f cP A outer s H E) [] (start N vs) H s1:=xX S hr.hd e0 hl r x
 refine wpAny_mono (ht [] s1 (start N vs) H _ I hq) (λfl s' hs=>?_) λe s' hs=>hs
 have fin:∀{σ':St} {H':Hp} {v:V} {u:Value},Inv (jY CX P w K mg base N qual scope f cP A outer s H E) [] σ' H' s'->RelV v u->Q v H'->CE outer P w H s Q u s' :=
  fun {σ' H' v u} J rv q=>⟨v,H',J.os,J.bare,J.base,J.aV,rv,q⟩
 cases fl with
 |ret u =>
  obtain⟨v,σ',H',J,rv,q⟩:=hs
  exact fin J rv q
 |next =>
  obtain⟨σ',H',J,q⟩:=hs
  exact fin (v:=V.ao) (u:=Value.none) J rfl q
 |brk =>
  obtain⟨_,_,_,q⟩:=hs
  exact False.elim q
 |cont =>
  obtain⟨_,_,_,q⟩:=hs
  exact False.elim q
section
variable {X:Cx}{x:Str}{p pos:Pos}{e:Expr}{es:List Expr}{t:TA}{id T:String}{r:List V->Hp->VK->Prop}
noncomputable def LR (r:List V->Hp->VK->Prop)(t:TA):TE:=λσ H Q=>t σ H λvs H1=>r vs H1 Q
theorem qD (hc:bS X (.builtin id) r)(hg:Gl X x)(hm:X.mg x=none)(hv:bootBuiltins x=some (.builtin id))(ha:PA X (e::es) t)(hn:x ≠ "__name__":=by decide)(gG:(x == ("__debug__":Str))=false:=by decide)
  (he:starEach (e::es) X.env=(false,eval e X.env)::starEach es X.env:=by rfl) (hJ:(backTo pos (starEach es X.env)).any (·.1)=false:=by rfl):PE X (.Call (.Name x p) (e::es) [] pos) (LR r t):=by
 intro pins s σ H Q I h
 refine wpAny_Call_Name_kw (gF I hg hm hv ?_ hn gG)
 exact PyProof.Rows.callWith_builtin1 (aT (ha pos pins s σ H _ I h) λus s1 ⟨vs,H1,I1,r1,q1⟩=>hc pins s1 σ H1 vs us Q I1 r1 q1) he hJ
theorem xZ (hc:bS X (.type T) r)(hg:Gl X x)(hm:X.mg x=none)(hv:bootBuiltins x=some (.type T))(ha:PA X (e::es) t)(hn:x ≠ "__name__":=by decide)(gG:(x == ("__debug__":Str))=false:=by decide)
  (he:starEach (e::es) X.env=(false,eval e X.env)::starEach es X.env:=by rfl) (hJ:(backTo pos (starEach es X.env)).any (·.1)=false:=by rfl):PE X (.Call (.Name x p) (e::es) [] pos) (LR r t):=by
 intro pins s σ H Q I h
 refine wpAny_Call_Name_kw (gF I hg hm hv ?_ hn gG)
 exact PyProof.Rows.callWith_type1 (aT (ha pos pins s σ H _ I h) λus s1 ⟨vs,H1,I1,r1,q1⟩=>hc pins s1 σ H1 vs us Q I1 r1 q1) he hJ
end
end L2
namespace HT
open PySem PyProof.Rows
section
open PySem.SeqAt
open PySem.AutoSeq1 (wpAny_loadPart')
open PySem.MeetsSeq PySem.MeetsSeq2 PySem.MeetsSeq3
end
section
variable {prog:Program}{w:World}{A:Around}{E:Value->Shared->Prop}{s:Shared}
theorem DN {t b:Addr}{vs ws:List Value}{Q:Value->Shared->Prop}(ht:IsTup s.heap t vs.toArray)(hb:IsTup s.heap b ws.toArray)(hv:vs ≠ [])
   (h1:ws = []->Q (.ref t) s) (h2:ws ≠ []->Q (.ref s.heap.objs.size) { s with heap:=s.heap.push { cls:=.type "tuple",data:=.seq (vs++ws).toArray } })
   (cX:vs.length+ws.length<=sizeLine):wpAny (model prog w) A (binaryOp .Add (.ref t) (.ref b)) Q E s:=by
 obtain⟨⟨cls,dd,data,sl⟩,ho,hc,n,hd⟩:=id ht
 obtain⟨⟨vX,jG,data2,hU⟩,dJ,f_,n2,hd2⟩:=id hb
 simp only at hc hd f_ hd2
 subst hc hd f_ hd2
 have e:vs.toArray++ws.toArray=(vs++ws).toArray:=by simp
 by_cases hw:ws = []
 . exact concat_meets ⟨_,ho,rfl⟩ ⟨_,dJ,rfl⟩ noFill_tuple_add seq_tuple_add PySem.F.slot_tuple_add PySem.F.entry_tuple_add (PySem.F.args_tuple_add_2 _ _)
    (tuple_addW1 t b vs.toArray ws.toArray n n2 dd jG sl hU (by simpa using hv) (by simp[hw])) ⟨ho,dJ,h1 hw⟩
 . refine concat_meets ⟨_,ho,rfl⟩ ⟨_,dJ,rfl⟩ noFill_tuple_add seq_tuple_add PySem.F.slot_tuple_add PySem.F.entry_tuple_add (PySem.F.args_tuple_add_2 _ _)
    (tuple_addW2 t b vs.toArray ws.toArray n n2 dd jG sl hU (by simpa using hv) (by simpa using hw) (by rw[List.size_toArray,List.size_toArray];exact cX)) ⟨ho,dJ,?_⟩
   rw[e]
   exact h2 hw
noncomputable def aQ (n d:Nat):Option Int->Nat
 |none=>d
 |some v=>if v<0 then(v+(n:Int)).toNat else min v.toNat n
theorem Gy (n d:Nat)(hd:d<=n)(o:Option Int):aQ n d o<=n:=by
 cases o with
 |none=>exact hd
 |some v =>
  show(if v<0 then(v+(n:Int)).toNat else min v.toNat n)<=n
  by_cases hv:v<0
  . rw[if_pos hv];omega
  . rw[if_neg hv];exact Nat.min_le_right _ _
theorem uz (v:Int)(n d:Nat):(if v<0 then max (v+(n:Int)) 0 else min v (n:Int))=((aQ n d (some v):Nat):Int):=by
 show(if v<0 then max (v+(n:Int)) 0 else min v (n:Int))=(((if v<0 then(v+(n:Int)).toNat else min v.toNat n):Nat):Int)
 by_cases hv:v<0
 . simp only[if_pos hv];omega
 . simp only[if_neg hv];omega
theorem vY (lo hi:Option Int)(n:Nat):Builtin.Slice.sliceAdjust lo hi 1 (n:Int)=(((aQ n 0 lo:Nat):Int),((aQ n n hi:Nat):Int)):=by
 have h1:¬((1:Int)<0):=by omega
 unfold Builtin.Slice.sliceAdjust
 simp only[h1,if_false]
 refine Prod.ext ?_ ?_
 . cases lo with
   |none=>rfl
   |some v=>exact uz v n 0
 . cases hi with
   |none=>rfl
   |some v=>exact uz v n n
theorem vZ (i j:Nat):Builtin.Slice.slicePlaces (i:Int) (j:Int) 1=j-i:=by
 unfold Builtin.Slice.slicePlaces
 have h1:(1:Int)>0:=by omega
 simp only[h1,if_true,Int.ediv_one]
 split<;>omega
theorem mC {v:Value}{o:Option Int}{Q:Option Int->Shared->Prop}(p:IsPart v o)(h:Q o s):wpAny (model prog w) A (Builtin.Slice.slicePartIndex v) Q E s:=by
 cases p with
 |none=>exact slicePart_none h
 |int i t=>exact slicePart_int h
theorem gH {sl:Addr}{vl vu:Value}{lo hi:Option Int}{n:Nat}{Q:Int×Int×Nat->Shared->Prop}(hs:s.heap.IsSliceOf sl vl vu .none)(pl:IsPart vl lo)(pu:IsPart vu hi)
  (h:Q (((aQ n 0 lo:Nat):Int),1,aQ n n hi-aQ n 0 lo) s):wpAny (model prog w) A (Builtin.Slice.sliceApplied (.ref sl) (pure (n:Int))) Q E s:=by
 obtain⟨os,qE,B7,mD⟩:=id hs
 unfold Builtin.Slice.sliceApplied Builtin.Slice.sliceFields
 refine wpAny_bind (wpAny_bind (wpAny_field qE mD (x:=vl) rfl (wpAny_bind (wpAny_field qE mD (x:=vu) rfl (wpAny_bind (wpAny_field qE mD (x:=.none) rfl (wpAny_pure ?_)))))))
 refine wpAny_bind (slicePart_none ?_)
 show wpAny _ _ (if((1:Int)== 0)=true then _ else _) _ _ s
 rw[if_neg (by decide)]
 refine wpAny_bind (mC pl (wpAny_bind (mC pu (wpAny_bind (wpAny_pure ?_)))))
 show wpAny _ _ (match Builtin.Slice.sliceAdjust lo hi 1 (n:Int)with| (lo,hi)=>pure (lo,(1:Int),Builtin.Slice.slicePlaces lo hi 1)) _ _ s
 rw[vY lo hi n]
 show wpAny _ _ (pure (((aQ n 0 lo:Nat):Int),(1:Int),Builtin.Slice.slicePlaces ((aQ n 0 lo:Nat):Int) ((aQ n n hi:Nat):Int) 1)) _ _ s
 rw[vZ]
 exact wpAny_pure h
theorem AG (xs:Array Value)(i k:Nat):((List.range k).filterMap λ(m:Nat)=>xs[((i:Int)+(m:Int)*1).toNat]?).toArray=((xs.toList.drop i).take k).toArray:=by
 have e:(λ(m:Nat)=>xs[((i:Int)+(m:Int)*1).toNat]?)=λm=>xs[i+m]?:=by
  funext m
  have:((i:Int)+(m:Int)*1).toNat=i+m:=by omega
  rw[this]
 rw[e]
 have:=pick_run xs i k
 rw[List.filterMap_map]at this
 have e2:((λx=>xs[x]?) ∘ λx=>i+x)=λm=>xs[i+m]?:=rfl
 rw[e2]at this
 rw[this]
theorem lj {t sl:Addr}{items:Array Value}{vl vu:Value}{lo hi:Option Int}{Q:Value->Shared->Prop}(ht:IsTup s.heap t items)(hs:s.heap.IsSliceOf sl vl vu .none)(pl:IsPart vl lo)(pu:IsPart vu hi)
  (hw:¬(aQ items.size 0 lo=0/\aQ items.size items.size hi=items.size))
  (h:Q (.ref s.heap.objs.size) { s with heap:=s.heap.push { cls:=.type "tuple",data:=.seq ((items.toList.drop (aQ items.size 0 lo)).take (aQ items.size items.size hi-aQ items.size 0 lo)).toArray } })
  (cX:items.size<=sizeLine):wpAny (model prog w) A (getItem (.ref t) (.ref sl)) Q E s:=by
 have pR:sizeOk (.seq ((items.toList.drop (aQ items.size 0 lo)).take (aQ items.size items.size hi-aQ items.size 0 lo)).toArray):=by
  show((items.toList.drop (aQ items.size 0 lo)).take (aQ items.size items.size hi-aQ items.size 0 lo)).toArray.size<=sizeLine
  rw[List.size_toArray,List.length_take,List.length_drop,Array.length_toList]
  omega
 have hj:aQ items.size items.size hi<=items.size:=Gy _ _ (Nat.le_refl _) hi
 obtain⟨os,qE,B7,mD⟩:=id hs
 have Gz:s.TypeIs (.ref sl) "slice":=⟨os,qE,B7⟩
 unfold getItem
 try with_reducible refine wpAny_holding ?_
 first|refine wpAny_bind (wpAny_pure ?_)|skip
 refine wpAny_bind (wpAny_sequenceKey ht.typeIs (by decide) ?_)
 refine wpAny_bind (wpAny_callSpecial?_slot (name:=Str.ofString "__getitem__") ht.typeIs PyProof.Rows.slot_tuple_getitem
  (wpAny_call_entry PyProof.Rows.slot_tuple_getitem ht.typeIs entry_tuple_getitem ?_ (args_tuple_getitem _ _)))
 show wpAny _ _ (Builtin.Tuple.tupleItemsOf (.ref t) >>= _) _ _ s
 refine wpAny_bind (tupleItemsOf_ ht ?_)
 refine wpAny_bind (wpAny_typeOf Gz ?_)
 rw[if_pos (by decide)]
 refine wpAny_bind (gH hs pl pu ?_)
 have qF:¬((((aQ items.size 0 lo:Nat):Int)== 0&&(1:Int)== 1&&(aQ items.size items.size hi-aQ items.size 0 lo)== items.size)=true):=by
  intro q
  rw[Bool.and_eq_true,Bool.and_eq_true]at q
  have q1:((aQ items.size 0 lo:Nat):Int)=0:=eq_of_beq q.1.1
  have q2:aQ items.size items.size hi-aQ items.size 0 lo=items.size:=eq_of_beq q.2
  exact hw ⟨by omega,by omega⟩
 show wpAny _ _ (if(((aQ items.size 0 lo:Nat):Int)== 0&&(1:Int)== 1&&(aQ items.size items.size hi-aQ items.size 0 lo)== items.size)=true then _ else _) _ _ s
 rw[if_neg qF,AG]
 first
  |exact wpAny_bind (m:=Builtin.Tuple.tupleExact _) (wpAny_newObj_type (wpAny_pure ⟨_,rfl,wpAny_pure h⟩) pR)
  |exact wpAny_bind (m:=Builtin.Tuple.tupleExact _) (wpAny_newObj_type (wpAny_bind (wpAny_pure (wpAny_pure ⟨_,rfl,wpAny_pure h⟩))) pR)
  |exact wpAny_bind (wpAny_bind (m:=Builtin.Tuple.tupleExact _) (wpAny_newObj_type (wpAny_pure (wpAny_pure ⟨_,rfl,wpAny_pure h⟩)) pR))
  |exact wpAny_bind (wpAny_bind (m:=Builtin.Tuple.tupleExact _) (wpAny_newObj_type (wpAny_pure ⟨_,rfl,wpAny_pure h⟩) pR))
end
end HT
namespace L2
open PySem PySem.Spec PyProof.Rows
abbrev TO:=St->Hp->(Option Int->Hp->Prop)->Prop
noncomputable def PO (X:Cx)(e:Option Expr)(t:TO):Prop :=
 ∀(pins:List (Addr×Obj)) (s:Shared) (σ:St) (H:Hp) (Q:Option Int->Hp->Prop),Inv X pins σ H s->t σ H Q ->
  wpAny (model X.prog X.w) X.A (evalPart e X.env) (λu s'=>∃o H',Inv X pins σ H' s'/\IsPart u o/\Q o H') X.xe s
noncomputable def DP:TO:=λ_ H Q=>Q none H
noncomputable def KC (t:TE):TO:=λσ H Q=>t σ H λx H1=>∃i,x = .int i/\Q (some i) H1
section
variable {X:Cx}{e:Expr}{te:TE}{lo hi:Option Expr}{tl th:TO}{pos p2:Pos}
theorem DQ:PO X none DP:=by
 intro pins s σ H Q I h
 rw[evalPart_none]
 exact wpAny_pure ⟨none,H,I,.none,h⟩
theorem DR (h:PE X e te):PO X (some e) (KC te):=by
 intro pins s σ H Q I hw
 rw[evalPart_some]
 refine aT (h pins s σ H _ I hw) λu s1 ⟨x,H1,I1,r1,q1⟩=>?_
 obtain⟨i,rfl,q⟩:=q1
 obtain⟨t,rfl⟩:=r1
 exact⟨some i,H1,I1,.int i t,q⟩
noncomputable def lA (X:Cx)(r:V->Option Int->Option Int->Hp->VK->Prop):Prop :=
 ∀(pins:List (Addr×Obj)) (s:Shared) (σ:St) (H:Hp) (x:V) (v vl vu:Value) (lo hi:Option Int) (sl:Addr) (Q:VK),Inv X pins σ H s->RelV x v->s.heap.IsSliceOf sl vl vu .none->IsPart vl lo->IsPart vu hi->r x lo hi H Q ->
  ∃T id,typeLookup (.type T) "__getitem__" = pure (some (.builtin id))/\s.TypeIs v T/\wpAny (model X.prog X.w) X.A (getItem v (.ref sl)) (EP X pins σ Q) X.xe s
theorem lA.or {r r':V->Option Int->Option Int->Hp->VK->Prop}(h:lA X r)(h':lA X r'):lA X (λx lo hi H Q=>r x lo hi H Q\/r' x lo hi H Q):=by
 intro pins s σ H x v vl vu lo hi sl Q I rx hs pl pu q
 rcases q with q|q
 . exact h pins s σ H x v vl vu lo hi sl Q I rx hs pl pu q
 . exact h' pins s σ H x v vl vu lo hi sl Q I rx hs pl pu q
noncomputable def Qj (r:V->Option Int->Option Int->Hp->VK->Prop)(te:TE)(tl th:TO):TE:=λσ H Q=>te σ H λx H1=>tl σ H1 λl H2=>th σ H2 λu H3=>r x l u H3 Q
theorem AH {r:V->Option Int->Option Int->Hp->VK->Prop}(hr:lA X r)(he:PE X e te)(hl:PO X lo tl)(hu:PO X hi th):PE X (.Subscript e (.Slice lo hi none p2) pos) (Qj r te tl th):=by
 intro pins s σ H Q I h
 refine Subscript_ (aT (he pins s σ H _ I h) λv s1 ⟨x,H1,I1,r1,q1⟩=>?_)
 refine wpAny_Slice (aT (hl pins s1 σ H1 _ I1 q1) λvl s2 ⟨l,H2,I2,pl,q2⟩=>aT (hu pins s2 σ H2 _ I2 q2) λvu s3 ⟨u,H3,I3,pu,q3⟩=>?_)
 rw[evalPart_none]
 refine wpAny_pure ?_
 have I4:Inv X pins σ H3 { s3 with heap:=s3.heap.push { cls:=.type "slice",data:=.fields #[vl,vu,.none] } }:=I3.kept (t':=s3.toks) λb ob q=>Heap.get?_push_of_some _ q
 obtain⟨T,id,hT,ht,hg⟩:=hr pins { s3 with heap:=s3.heap.push { cls:=.type "slice",data:=.fields #[vl,vu,.none] } } σ H3 x v vl vu l u s3.heap.objs.size Q I4 r1 (Heap.IsSliceOf.new ..) pl pu q3
 show wpAny (model X.prog X.w) X.A (subscriptTail e (.Slice lo hi none p2) v (.ref s3.heap.objs.size)) (EP X pins σ Q) X.xe { s3 with heap:=s3.heap.push { cls:=.type "slice",data:=.fields #[vl,vu,.none] } }
 exact tail_any (ops:=[.ref s3.heap.objs.size,v]) ht hT hg (by with_unfolding_all rfl)
noncomputable def jZ (xs:List V)(lo hi:Option Int):List V:=(xs.drop (HT.aQ xs.length 0 lo)).take (HT.aQ xs.length xs.length hi-HT.aQ xs.length 0 lo)
theorem lB (xs:List V)(lo hi:Option Int):(jZ xs lo hi).length<=xs.length:=by
 unfold jZ
 rw[List.length_take,List.length_drop]
 omega
noncomputable def GA (K:PySem.W.Frag):V->Option Int->Option Int->Hp->VK->Prop:=λx lo hi H Q=>∃a xs,x = .ref a/\da K H a xs /\
 ¬(HT.aQ xs.length 0 lo=0/\HT.aQ xs.length xs.length hi=xs.length) /\ ∀p,H p=none->Q (.ref p) (upd H p (.tup (jZ xs lo hi)))
theorem GB:lA X (GA X.K):=by
 intro pins s σ H x v vl vu lo hi sl Q I rx hs pl pu h
 obtain⟨a,xs,rfl,hx,hw,q⟩:=h
 cases rx
 obtain⟨ah,r,ht,hz⟩:=I.tuple hx
 have hlen:ah.toArray.size=xs.length:=by rw[List.size_toArray];exact r.length.symm
 refine⟨"tuple",_,PyProof.Rows.slot_tuple_getitem.lookup,ht.typeIs,?_⟩
 refine HT.lj ht hs pl pu (by rw[hlen];exact hw) ?_ (by rw[hlen];exact hz)
 rw[hlen]
 refine⟨.ref s.heap.objs.size,_,I.laid (t':=s.toks) (o:=.tup (jZ xs lo hi)) (λb ob q=>Heap.get?_push_of_some _ q) (Nat.le_refl _) ?_,rfl,q _ (I.aV.fresh (Nat.le_refl _))⟩
 exact⟨Nat.le_trans (lB xs lo hi) hz,_,(r.drop (HT.aQ xs.length 0 lo)).take (HT.aQ xs.length xs.length hi-HT.aQ xs.length 0 lo),eA.new _ _⟩
noncomputable def KD (K:PySem.W.Frag):R2:=λx y H Q=>∃a b xs ys,x = .ref a/\y = .ref b/\da K H a xs/\da K H b ys/\xs ≠ []/\xs.length+ys.length<=sizeLine /\
 (ys = []->Q (.ref a) H)/\(ys ≠ []->∀p,H p=none->Q (.ref p) (upd H p (.tup (xs++ys))))
theorem Vals.nQ {xs:List V}{us:List Value}(r:Vals xs us):us = []↔ xs = []:=by
 cases r with
 |nil=>simp
 |cons _ _=>simp
theorem DU:aX X (binaryOp .Add) (KD X.K):=by
 intro pins s σ H x y v u Q I rx ry h
 obtain⟨a,b,xs,ys,rfl,rfl,ha,hb,hx,hz,q1,q2⟩:=h
 cases rx
 cases ry
 obtain⟨ah,r1,p1,_⟩:=I.tuple ha
 obtain⟨eB,r2,p2,_⟩:=I.tuple hb
 refine HT.DN p1 p2 (λz=>hx (r1.nQ.mp z)) (λz=>⟨.ref a,H,I,rfl,q1 (r2.nQ.mp z)⟩) (λz=>?_) (by rw[<- r1.length,<- r2.length];exact hz)
 refine⟨.ref s.heap.objs.size,_,I.laid (t':=s.toks) (o:=.tup (xs++ys)) (λb ob q=>Heap.get?_push_of_some _ q) (Nat.le_refl _) ?_,rfl,q2 (λw=>z (r2.nQ.mpr w)) _ (I.aV.fresh (Nat.le_refl _))⟩
 exact⟨by rw[List.length_append];exact hz,_,r1.append r2,eA.new _ _⟩
end
noncomputable def jH (n:Nat)(i:Int):Option Nat:=if 0<=i then(if i<n then some i.toNat else none)else if -(n:Int)<=i then some (i+n).toNat else none
noncomputable def bW {α:Type}(xs:List α)(i:Int):Option α:=(jH xs.length i).bind λj=>xs[j]?
theorem uA {n:Nat}{i:Int}{j:Nat}(h:jH n i=some j):seqIndex? i n=some j/\j<n /\ -(n:Int)<=i/\i<n:=by
 unfold jH at h
 by_cases h0:0<=i
 . rw[if_pos h0]at h
   by_cases h1:i<n
   . rw[if_pos h1]at h
     have e:i.toNat=j:=Option.some.inj h
     exact⟨by rw[seqIndex_of h0 h1,e],by omega,by omega,h1⟩
   . rw[if_neg h1]at h;cases h
 . rw[if_neg h0]at h
   by_cases h1:-(n:Int)<=i
   . rw[if_pos h1]at h
     have e:(i+n).toNat=j:=Option.some.inj h
     exact⟨by rw[seqIndex_neg (by omega) h1,e],by omega,h1,by omega⟩
   . rw[if_neg h1]at h;cases h
theorem nR {α:Type}{xs:List α}{i:Int}{v:α}(h:bW xs i=some v):∃j,seqIndex? i xs.length=some j/\xs[j]? = some v/\j<xs.length /\ -(xs.length:Int)<=i/\i<xs.length:=by
 unfold bW at h
 cases e:jH xs.length i with
 |none=>rw[e]at h;cases h
 |some j =>
  rw[e]at h
  obtain⟨h1,h2,h3,h4⟩:=uA e
  exact⟨j,h1,h,h2,h3,h4⟩
theorem DV {α:Type}{xs:List α}{j:Nat}{v:α}(h:xs[j]? = some v):bW xs (j:Int)=some v:=by
 have hj:j<xs.length:=(List.getElem?_eq_some_iff.mp h).1
 have e:jH xs.length (j:Int)=some j:=by
  unfold jH
  rw[if_pos (by omega),if_pos (by omega)];simp
 unfold bW;rw[e];exact h
def iG (b:Expr):Prop:=∀o i,subscripted b false o i=operate [o,i] (getItem o i)
noncomputable def jI (X:Cx)(r:R2):Prop :=
 ∀(value slice:Expr) (pins:List (Addr×Obj)) (s:Shared) (σ:St) (H:Hp) (x y:V) (v u:Value) (Q:VK),Inv X pins σ H s->RelV x v->RelV y u->r x y H Q ->
  subscripted slice false v u=operate [v,u] (getItem v u)->wpAny (model X.prog X.w) X.A (subscriptTail value slice v u) (EP X pins σ Q) X.xe s
noncomputable def B8 (X:Cx)(id:String)(r:V->List V->Hp->VK->Prop):Prop :=
 ∀(pins:List (Addr×Obj)) (s:Shared) (σ:St) (H:Hp) (x:V) (xs:List V) (v:Value) (us:List Value) (Q:VK),Inv X pins σ H s->RelV x v->Vals xs us->r x xs H Q ->
  wpAny (model X.prog X.w) X.A (call (.builtin id) (v::us)) (EP X pins σ Q) X.xe s
section
variable {X:Cx}{a b:Expr}{ta tb:TE}{pos:Pos}
theorem jI.or {r r':R2}(h:jI X r)(h':jI X r'):jI X (λx y H Q=>r x y H Q\/r' x y H Q):=by
 intro value slice pins s σ H x y v u Q I rx ry q hs
 rcases q with q|q
 . exact h value slice pins s σ H x y v u Q I rx ry q hs
 . exact h' value slice pins s σ H x y v u Q I rx ry q hs
theorem v7 {r:R2}(hr:jI X r)(ha:PE X a ta)(hb:PE X b tb)(hs:iG b):PE X (.Subscript a b pos) (uy r ta tb):=by
 intro pins s σ H Q I h
 exact Subscript_ (AA ha hb I h λv u s2 x y H2 I2 rx ry q=>hr a b pins s2 σ H2 x y v u Q I2 rx ry q (hs _ _))
noncomputable def GC (K:PySem.W.Frag):R2:=λx y H Q=>∃p xs i v,x = .ref p/\y = .int i/\b7 K H p xs/\bW xs i=some v/\Q v H
noncomputable def GD (K:PySem.W.Frag):R2:=λx y H Q=>∃p xs i v,x = .ref p/\y = .int i/\da K H p xs/\bW xs i=some v/\Q v H
noncomputable def GF:R2:=λx y H Q=>∃z i c,x = .str z/\y = .int i/\z.length<=sizeLine/\bW z.cps.toList i=some c/\Q (.str ⟨#[c]⟩) H
theorem DX:jI X (GC X.K):=by
 intro value slice pins s σ H x y v u Q I rx ry h hs
 obtain⟨p,xs,i,z,rfl,rfl,hq,he,q⟩:=h
 cases rx
 obtain⟨t,rfl⟩:=ry
 obtain⟨ah,r,pl,hz⟩:=I.list hq
 obtain⟨j,h1,h2,h3,h4,h5⟩:=nR he
 obtain⟨w,ew,xH⟩:=r.get h2
 have hl:=r.length
 have hn:=iE
 have fin:EP X pins σ Q w s:=⟨z,H,I,xH,q⟩
 by_cases h0:0<=i
 . have hj:i.toNat=j:=by
    rw[seqIndex_of h0 h5]at h1
    exact Option.some.inj h1
   exact item_listR pl.isList h0 (by omega) (by rw[hj];simpa using ew) fin hs
 . have hj:(i+(ah.toArray.size:Int)).toNat=j:=by
    rw[seqIndex_neg (by omega) h4]at h1
    rw[List.size_toArray,<- hl]
    exact Option.some.inj h1
   exact subscriptTail_builtinR (x:=w) pl.isList.typeIs slot_list_getitem.lookup
    (wpAny_getItem_list_neg (Q:=λr s'=>r=w/\EP X pins σ Q r s') pl.isList (by omega) (by rw[List.size_toArray]<;>omega) (by omega) (by rw[hj];simpa using ew) ⟨rfl,fin⟩) hs
theorem GG:jI X (GD X.K):=by
 intro value slice pins s σ H x y v u Q I rx ry h hs
 obtain⟨p,xs,i,z,rfl,rfl,hq,he,q⟩:=h
 cases rx
 obtain⟨t,rfl⟩:=ry
 obtain⟨ah,r,pl,hz⟩:=I.tuple hq
 obtain⟨j,h1,h2,h3,h4,h5⟩:=nR he
 obtain⟨w,ew,xH⟩:=r.get h2
 have hl:=r.length
 have hn:=iE
 have fin:EP X pins σ Q w s:=⟨z,H,I,xH,q⟩
 exact subscriptTail_builtinR (x:=w) pl.typeIs slot_tuple_getitem.lookup
  (getItem_tuple (j:=j) (Q:=λr s'=>r=w/\EP X pins σ Q r s') pl (by omega) (by omega) (by rw[List.size_toArray,<- hl];exact h1) (by simpa using ew) ⟨rfl,fin⟩) hs
theorem GH:jI X GF:=by
 intro value slice pins s σ H x y v u Q I rx ry h hs
 obtain⟨z,i,c,rfl,rfl,hz,he,q⟩:=h
 obtain⟨t,rfl⟩:=rx
 obtain⟨t',rfl⟩:=ry
 obtain⟨j,h1,h2,h3,h4,h5⟩:=nR he
 have hl:z.cps.toList.length=z.length:=by simp[Str.length]
 rw[hl]at h1 h4 h5
 have hn:=iE
 exact tail_any (typeIs_str s z t) slot_str_getitem.lookup (getItem_str (c:=c) (by
  have e1:decide (i < -(2 ^ 63:Int))=false:=decide_eq_false (by omega)
  have e2:decide (i>=2 ^ 63)=false:=decide_eq_false (by omega)
  rw[e1,e2,Bool.or_false]) (by rw[h1];simpa using h2) ⟨.str ⟨#[c]⟩,H,I.tok _,⟨_,rfl⟩,q⟩) hs
noncomputable def Qk (K:PySem.W.Frag):R2:=λx y H Q=>GC K x y H Q\/GD K x y H Q\/GF x y H Q
theorem x4:jI X (Qk X.K):=DX.or (GG.or GH)
theorem v9 (ah:List Value)(n j:Nat)(u:Value):Obj.mapSeq (·.setIfInBounds j u) { cls:=.type "list",data:=.seq ah.toArray n }={ cls:=.type "list",data:=.seq (ah.set j u).toArray n }:=by
 simp[Obj.mapSeq]
theorem Inv.lst {pins:List (Addr×Obj)}{σ:St}{H:Hp}{s:Shared}{p:Addr}{xs:List V}(I:Inv X pins σ H s)(h:H p=some (.lst xs)):
  ∃(ah:List Value) (n:Nat),Vals xs ah/\s.heap.get? p=some { cls:=.type "list",data:=.seq ah.toArray n }/\xs.length<=sizeLine:=by
 obtain⟨z,ah,n,r,e⟩:=I.aV p _ h
 exact⟨ah,n,r,e,z⟩
theorem Inv.GI {pins:List (Addr×Obj)}{σ:St}{H:Hp}{s:Shared}{p:Addr}{xs ys:List V}{ah its':List Value}{n n':Nat}{f:Obj->Obj}(I:Inv X pins σ H s)(h:H p=some (.lst xs))
  (ho:s.heap.get? p=some { cls:=.type "list",data:=.seq ah.toArray n }) (hf:f { cls:=.type "list",data:=.seq ah.toArray n }={ cls:=.type "list",data:=.seq its'.toArray n' }) (r:Vals ys its') (hz:ys.length<=sizeLine) (t:Nat):
  Inv X pins σ (upd H p (.lst ys)) { s with heap:=s.heap.update p f,toks:=t }:=by
 have e:(s.heap.update p f).get? p=some { cls:=.type "list",data:=.seq its'.toArray n' }:=by
  rw[Heap.get?_update_self f ho (by rw[hf]<;>rfl),hf]
 refine I.write (x:=p) (e:=p) (by rw[h];trivial) (.inl rfl) (λb u hb q=>(Heap.get?_update_other _ _ (Ne.symm hb)).trans q) ⟨_,e⟩ ?_
 exact⟨hz,its',n',r,e⟩
noncomputable def KG:V->V->V->Hp->(Hp->Prop)->Prop:=λo i v H Q=>∃p xs k j,o = .ref p/\i = .int k/\H p=some (.lst xs)/\jH xs.length k=some j/\Q (upd H p (.lst (xs.set j v)))
theorem set_list:Ax X KG:=by
 intro pins s σ H o i v ov iv u Q I ro ri rv h
 obtain⟨p,xs,k,j,rfl,rfl,hp,hj,q⟩:=h
 cases ro
 obtain⟨t,rfl⟩:=ri
 obtain⟨ah,n,r,ho,hz⟩:=I.lst hp
 obtain⟨h1,h2,h3,h4⟩:=uA hj
 have hl:=r.length
 have hn:=iE
 have I':Inv X pins σ (upd H p (.lst (xs.set j v))) { s with heap:=s.heap.update p (Obj.mapSeq (·.setIfInBounds j u)) }:=
   I.GI hp ho (v9 ah n j u) (r.set rv j) (by rw[List.length_set];exact hz) s.toks
 by_cases h0:0<=k
 . have hk:k.toNat=j:=by
    rw[seqIndex_of h0 h4]at h1
    exact Option.some.inj h1
   exact PySem.W.ki_setAt ho h0 (by omega) (by rw[List.size_toArray,<- hl];exact h4) (by rw[hk];exact⟨_,I',q⟩)
 . have hk:(k+(ah.toArray.size:Int)).toNat=j:=by
    rw[seqIndex_neg (by omega) h3]at h1
    rw[List.size_toArray,<- hl]
    exact Option.some.inj h1
   exact PySem.W.ki_setBack ho (by omega) (by rw[List.size_toArray,<- hl];exact h3) (by omega) (by rw[hk];exact⟨_,I',q⟩)
theorem qG (lo hi:Option Int)(n:Nat):(sliceBounds lo hi none n).1=((HT.aQ n 0 lo:Nat):Int)/\(sliceBounds lo hi none n).2.1=((HT.aQ n n hi:Nat):Int)/\(sliceBounds lo hi none n).2.2=1:=by
 refine⟨?_,?_,rfl⟩
 . cases lo with
   |none=>simp[sliceBounds,HT.aQ]
   |some i =>
    simp only[sliceBounds,HT.aQ,Option.getD_none,show(1:Int)>0 by decide,if_true]
    by_cases h:i<0
    . simp only[h,if_true]<;>omega
    . simp only[h,if_false]<;>omega
 . cases hi with
   |none=>simp[sliceBounds,HT.aQ]
   |some i =>
    simp only[sliceBounds,HT.aQ,Option.getD_none,show(1:Int)>0 by decide,if_true]
    by_cases h:i<0
    . simp only[h,if_true]<;>omega
    . simp only[h,if_false]<;>omega
theorem pK (ah:List Value)(lo hi:Option Int):slicePick ah.toArray lo hi none=((ah.drop (HT.aQ ah.length 0 lo)).take (HT.aQ ah.length ah.length hi-HT.aQ ah.length 0 lo)).toArray:=by
 obtain⟨h1,h2,h3⟩:=qG lo hi ah.toArray.size
 unfold slicePick
 rw[h1,h2,h3]
 simp only[sliceRange_one,pick_run,List.size_toArray]<;>rfl
noncomputable def GJ (K:PySem.W.Frag):V->Option Int->Option Int->Hp->VK->Prop:=λx lo hi H Q=>∃a xs,x = .ref a/\b7 K H a xs /\ ∀p,H p=none->Q (.ref p) (upd H p (.lst (jZ xs lo hi)))
theorem DY:lA X (GJ X.K):=by
 intro pins s σ H x v vl vu lo hi sl Q I rx hs pl pu h
 obtain⟨a,xs,rfl,hx,q⟩:=h
 cases rx
 obtain⟨ah,r,ht,hz⟩:=I.list hx
 have hlen:=r.length
 refine⟨"list",_,slot_list_getitem.lookup,ht.isList.typeIs,?_⟩
 refine wpAny_getItem_list_slice ht.isList hs pl pu .none (by simp) ?_ (by rw[List.size_toArray]<;>omega)
 rw[pK,<- hlen]
 refine⟨.ref s.heap.objs.size,_,I.laid (t':=s.toks) (o:=.lst (jZ xs lo hi)) (λb ob q=>Heap.get?_push_of_some _ q) (Nat.le_refl _) ?_,rfl,q _ (I.aV.fresh (Nat.le_refl _))⟩
 exact⟨Nat.le_trans (lB xs lo hi) hz,_,0,(r.drop (HT.aQ xs.length 0 lo)).take (HT.aQ xs.length xs.length hi-HT.aQ xs.length 0 lo),Heap.get?_push_size _ rfl⟩
noncomputable def eC:V->Bool
 |.ao=>true
 |.bl _=>true
 |.int _=>true
 |.str _=>true
 |_=>false
noncomputable def oO:V->V->Bool
 |.ao,.ao=>true
 |.bl a,.bl b=>a == b
 |.bl a,.int b=>(if a then 1 else 0)== b
 |.int a,.bl b=>a == (if b then 1 else 0)
 |.int a,.int b=>a == b
 |.str a,.str b=>a == b
 |_,_=>false
theorem GK {A:Around}{s:Shared}{y x:V}{u v:Value}(ry:RelV y u)(rx:RelV x v)(fy:eC y=true)(fx:eC x=true):SeqAt.EqAt A s u v (oO y x):=by
 cases y with
 |ao =>
  cases ry
  cases x with
  |ao=>cases rx;exact SeqAt.EqAt.same _
  |bl b=>cases rx;exact SeqAt.EqAt.none_bool b
  |int b=>obtain⟨t,rfl⟩:=rx;exact SeqAt.EqAt.none_int b t
  |str b=>obtain⟨t,rfl⟩:=rx;exact SeqAt.EqAt.none_str b t
  |_=>exact absurd (show false=true from fx) Bool.false_ne_true
 |bl a =>
  cases ry
  cases x with
  |ao=>cases rx;exact SeqAt.EqAt.bool_none a
  |bl b=>cases rx;exact SeqAt.EqAt.bool_bool a b
  |int b=>obtain⟨t,rfl⟩:=rx;exact SeqAt.EqAt.bool_int a b t
  |str b=>obtain⟨t,rfl⟩:=rx;exact SeqAt.EqAt.bool_str a b t
  |_=>exact absurd (show false=true from fx) Bool.false_ne_true
 |int a =>
  obtain⟨t',rfl⟩:=ry
  cases x with
  |ao=>cases rx;exact SeqAt.EqAt.int_none a t'
  |bl b=>cases rx;exact SeqAt.EqAt.int_bool a t' b
  |int b=>obtain⟨t,rfl⟩:=rx;exact SeqAt.EqAt.int_int a t' b t
  |str b=>obtain⟨t,rfl⟩:=rx;exact SeqAt.EqAt.int_str a t' b t
  |_=>exact absurd (show false=true from fx) Bool.false_ne_true
 |str a =>
  obtain⟨t',rfl⟩:=ry
  cases x with
  |ao=>cases rx;exact SeqAt.EqAt.str_none a t'
  |bl b=>cases rx;exact SeqAt.EqAt.str_bool a t' b
  |int b=>obtain⟨t,rfl⟩:=rx;exact SeqAt.EqAt.str_int a t' b t
  |str b=>obtain⟨t,rfl⟩:=rx;exact SeqAt.EqAt.str_str a t' b t
  |_=>exact absurd (show false=true from fx) Bool.false_ne_true
 |_=>exact absurd (show false=true from fy) Bool.false_ne_true
noncomputable def uB (x:V)(u:Value):Bool:=match u with
 |.none=>oO .ao x
 |.bool b=>oO (.bl b) x
 |.int i _=>oO (.int i) x
 |.str z _=>oO (.str z) x
 |_=>false
theorem qH {x y:V}{u:Value}(r:RelV y u)(f:eC y=true):uB x u=oO y x:=by
 cases y with
 |ao=>cases r;rfl
 |bl b=>cases r;rfl
 |int i=>obtain⟨t,rfl⟩:=r;rfl
 |str z=>obtain⟨t,rfl⟩:=r;rfl
 |_=>exact absurd (show false=true from f) Bool.false_ne_true
theorem lQ {A:Around}{s:Shared}{x:V}{v:Value}(rx:RelV x v)(fx:eC x=true):∀{xs:List V} {us:List Value},Vals xs us->xs.all eC=true->∀u∈us,SeqAt.EqAt A s u v (uB x u)
 |_,_,.nil,_=>λu hu=>by cases hu
 |y::xs,u::us,.cons r t,f=>λu' hu=>by
  rw[List.all_cons,Bool.and_eq_true]at f
  rcases List.mem_cons.mp hu with rfl|hu
  . rw[qH r f.1];exact GK r rx f.1 fx
  . exact lQ rx fx t f.2 u' hu
theorem qI:bS X (.builtin "len") (λxs H Q=>∃p ys,xs = [.ref p]/\(b7 X.K H p ys\/da X.K H p ys)/\Q (.int ys.length) H):=by
 intro pins s σ H xs us Q I r h
 obtain⟨p,ys,rfl,hq,q⟩:=h
 obtain⟨u,rfl,rx⟩:=vals1 r
 cases rx
 have hn:=iE
 rcases hq with hq|hq
 . obtain⟨ah,r',pl,hz⟩:=I.list hq
   have hlen:=r'.length
   exact Calls.call_len_list pl.isList (by simp only[List.size_toArray]<;>omega) ⟨.int ys.length,H,I.tok _,⟨s.toks+1,by rw[List.size_toArray,hlen]⟩,q⟩
 . obtain⟨ah,r',pl,hz⟩:=I.tuple hq
   have hlen:=r'.length
   exact len_tuple pl (by simp only[List.size_toArray]<;>omega) ⟨.int ys.length,H,I.tok _,⟨s.toks+1,by rw[List.size_toArray,hlen]⟩,q⟩
theorem jJ:bS X (.type "tuple") (λxs H Q=>∃p ys,xs = [.ref p]/\((b7 X.K H p ys /\ ∀l,H l=none->Q (.ref l) (upd H l (.tup ys)))\/(da X.K H p ys/\Q (.ref p) H))):=by
 intro pins s σ H xs us Q I r h
 obtain⟨p,ys,rfl,h⟩:=h
 obtain⟨u,rfl,rx⟩:=vals1 r
 cases rx
 rcases h with⟨hq,q⟩|⟨hq,q⟩
 . obtain⟨ah,r',pl,hz⟩:=I.list hq
   have hlen:=r'.length
   refine call_tuple_list pl.isList (λh' kp=>?_) (by simp only[List.size_toArray]<;>omega)
   have I1:Inv X pins σ H { s with heap:=h' }:=I.kept (t':=s.toks) kp
   have I2:Inv X pins σ (upd H h'.objs.size (.tup ys)) { s with heap:=h'.push { cls:=.type "tuple",data:=.seq ah.toArray } }:=
    I1.laid (t':=s.toks) (λb o e=>Heap.get?_push_of_some _ e) (Nat.le_refl _) (show b8 X.prog X.w _ _ _ (.tup ys) from⟨hz,ah,r',eA.new _ _⟩)
   exact⟨.ref h'.objs.size,_,I2,rfl,q _ (I1.aV.fresh (Nat.le_refl _))⟩
 . obtain⟨ah,r',pl,hz⟩:=I.tuple hq
   exact call_tuple_same pl ⟨.ref p,H,I,rfl,q⟩
def LS (K:PySem.W.Frag)(T:String)(x:V)(H:Hp):Prop:=match x with
 |.str _=>T = "str"
 |.int _=>T = "int"
 |.ref p=>(T = "list" /\ ∃xs,b7 K H p xs)\/(T = "tuple" /\ ∃o,K.lookup p=some o/\o.cls = .type "tuple" /\ o.dict=none) \/
  (T = "dict" /\ ((∃cz,H p=some (.dK cz)) \/ ∃cz,H p=some (.dT cz)))\/(T = "set" /\ ∃S n,H p=some (.set S n))
 |_=>False
theorem qJ {pins:List (Addr×Obj)}{σ:St}{H:Hp}{s:Shared}{T:String}{x:V}{v:Value}(I:Inv X pins σ H s)(r:RelV x v)(ty:LS X.K T x H):
  s.TypeIs v T /\ ∀a,v = .ref a->∃ob,s.heap.get? a=some ob/\ob.dict=none:=by
 cases x with
 |str z =>
  obtain⟨t,rfl⟩:=r
  cases (show T = "str" from ty)
  exact⟨typeIs_str s z t,λ_ e=>nomatch e⟩
 |int i =>
  obtain⟨t,rfl⟩:=r
  cases (show T = "int" from ty)
  exact⟨typeIs_int s i t,λ_ e=>nomatch e⟩
 |ref p =>
  cases r
  rcases ty with⟨rfl,xs,hq⟩|⟨rfl,o,hk,hc,hd⟩|⟨rfl,hk⟩|⟨rfl,S,n,hk⟩
  . obtain⟨ah,_,pl,_⟩:=I.list hq
    refine⟨pl.isList.typeIs,λa e=>?_⟩
    cases e
    obtain⟨o,n,e,c,hd,_⟩:=pl
    exact⟨o,e,hd⟩
  . refine⟨⟨o,I.dB p o hk,hc⟩,λa e=>?_⟩
    cases e
    exact⟨o,I.dB _ o hk,hd⟩
  . have z:∃o,s.heap.get? p=some o/\o.ExactDict:=by
     rcases hk with⟨cz,hk⟩|⟨cz,hk⟩
     . obtain⟨_,_,_,_,o,_,_,e,ex,_⟩:=I.aV p _ hk
       exact⟨o,e,ex⟩
     . obtain⟨_,_,_,_,o,_,_,e,ex,_⟩:=I.aV p _ hk
       exact⟨o,e,ex⟩
    obtain⟨o,e,ex⟩:=z
    refine⟨⟨o,e,ex.1⟩,λa e2=>?_⟩
    cases e2
    exact⟨o,e,ex.2.1⟩
  . obtain⟨o,_,_,_,e,ex,_⟩:=I.aV p _ hk
    refine⟨⟨o,e,ex.1⟩,λa e2=>?_⟩
    cases e2
    exact⟨o,e,ex.2.1⟩
 |_=>exact False.elim ty
noncomputable def Ql (K:PySem.W.Frag)(T:String)(r:V->List V->Hp->VK->Prop)(to:TE)(t:TA):TE:=λσ H Q=>to σ H λx H1=>LS K T x H1/\t σ H1 λxs H2=>r x xs H2 Q
variable {o e:Expr}{es:List Expr}{to:TE}{t:TA}{name:Str}{apos bL:Pos}{T id:String}{r:V->List V->Hp->VK->Prop}
theorem KH (pa:PlainAttrs T)(slot:Slot T name id)(B9:typeOf (.builtin id)=pure (.type "method_descriptor"))(hm:B8 X id r)(ho:PE X o to)(ha:PA X (e::es) t)
  (jf:attributeBase o name X.env (eval o X.env)=eval o X.env:=by rfl)
  (qK:((backTo bL (starEach (e::es) X.env)).all (λx=>!x.1)&&(backToKw bL (keywordEach [] X.env)).all (λx=>x.1.isSome)
   && decide ((e::es).length+([]:List Keyword).length+(if([]:List Keyword).isEmpty then 0 else 1)<30))=true:=by rfl)
  (jg:(apos.endLine == bL.line)=true:=by rfl) (hs:starEach (e::es) X.env=(false,eval e X.env)::starEach es X.env:=by rfl) (qL:(backTo bL (starEach es X.env)).any (·.1)=false:=by rfl):
  PE X (.Call (.Attribute o name apos) (e::es) [] bL) (Ql X.K T r to t):=by
 intro pins s σ H Q I h
 refine wpAny_Call_method_late jf qK jg rfl (aT (ho pins s σ H _ I h) λv s1 ⟨x,H1,I1,r1,ty,q1⟩=>?_)
 obtain⟨h1,h2⟩:=qJ I1 r1 ty
 refine⟨T,id,pa,slot,B9,h1,h2,?_⟩
 have hA:=ha bL pins s1 σ H1 _ I1 q1
 rw[hs]at hA ⊢
 refine Calls.callWith_builtin (by show(false||(backTo bL (starEach es X.env)).any (·.1))=false;rw[qL]<;>rfl) (Calls.evalArgs_plain ?_)
 exact aT hA λus s2 ⟨vs,H2,I2,r2,q2⟩=>hm pins s2 σ H2 x vs v us Q I2 r1 r2 q2
end
noncomputable def LU (X:Cx)(id:String)(r:V->List V->Hp->VK->Prop):Prop :=
 ∀(pins:List (Addr×Obj)) (s:Shared) (σ:St) (H:Hp) (x:V) (xs:List V) (v:Value) (us:List Value) (Q:VK),Inv X pins σ H s->RelV x v->Vals xs us->r x xs H Q ->
  wpAny (model X.prog X.w) X.A (call (.builtin id) (v::us)) (EP X pins σ Q) X.xe s
theorem Vals.one:∀{x:V} {us:List Value},Vals [x] us->∃u,us = [u]/\RelV x u
 |_,_,.cons r .nil=>⟨_,rfl,r⟩
theorem Vals.zero:∀{us:List Value},Vals [] us->us = []
 |_,.nil=>rfl
theorem Vals.rep {xs:List V}{us:List Value}(h:Vals xs us):∀k:Nat,Vals (List.replicate k xs).flatten (List.replicate k us).flatten
 | 0=>.nil
 |k+1=>by
  rw[List.replicate_succ,List.replicate_succ,List.flatten_cons,List.flatten_cons]
  exact Vals.append h (Vals.rep h k)
theorem foldl_rep (ah:List Value):∀(k:Nat) (acc:List Value),
  List.foldl (λx1 x2=>x1++x2) acc.toArray (List.replicate k ah.toArray)=(acc++(List.replicate k ah).flatten).toArray
 | 0,acc=>by simp
 |k+1,acc=>by
  have e:acc.toArray++ah.toArray=(acc++ah).toArray:=by simp
  have e2:(acc++ah)++(List.replicate k ah).flatten=acc++(List.replicate (k+1) ah).flatten:=by
   rw[List.replicate_succ,List.flatten_cons,List.append_assoc]
  rw[<- e2,<- foldl_rep ah k (acc++ah),<- e,List.replicate_succ,List.foldl_cons]
section
variable {X:Cx}{pins:List (Addr×Obj)}{σ:St}{H:Hp}{s:Shared}{l b:Addr}{xs ys zs:List V}
theorem Inv.GL {ah its':List Value}{n:Nat}{f:Array Value->Array Value}{t':Nat}(I:Inv X pins σ H s)(hH:H l=some (.lst xs))
  (e:s.heap.get? l=some { cls:=.type "list",data:=.seq ah.toArray n }) (hf:f ah.toArray=its'.toArray) (hv:Vals ys its') (hz:ys.length<=sizeLine):
  Inv X pins σ (upd H l (.lst ys)) { s with heap:=s.heap.update l (Obj.mapSeq f),toks:=t' }:=by
 have q:=PySem.IsL.update e f
 rw[hf]at q
 refine I.write (x:=l) (e:=l) (by rw[hH];exact trivial) (.inl rfl) (λb' u hb hu=>(Heap.get?_update_other s.heap (Obj.mapSeq f) (Ne.symm hb)).trans hu) ⟨_,q⟩ ?_
 exact⟨hz,its',_,hv,q⟩
theorem Inv.NB {ah:List Value}{t':Nat}(I:Inv X pins σ H s)(hv:Vals ys ah)(hz:ys.length<=sizeLine):
  Inv X pins σ (upd H s.heap.objs.size (.lst ys)) { s with heap:=s.heap.push { cls:=.type "list",data:=.seq ah.toArray },toks:=t' }:=
 I.laid (λ_ _ q=>Heap.get?_push_of_some _ q) (Nat.le_refl _) ⟨hz,ah,0,hv,Heap.get?_push_size _ rfl⟩
theorem Inv.fresh (I:Inv X pins σ H s):H s.heap.objs.size=none:=I.aV.fresh (Nat.le_refl _)
theorem Inv.GN (I:Inv X pins σ H s)(hH:H l=some (.lst xs)):xs.length<=sizeLine /\ ∃(ah:List Value) (n:Nat),Vals xs ah/\xs.length=ah.length/\s.heap.get? l=some { cls:=.type "list",data:=.seq ah.toArray n }:=by
 obtain⟨z,ah,n,r,e⟩:=I.aV l _ hH
 exact⟨z,ah,n,r,r.length,e⟩
theorem AI {n:Nat}(h:n<=sizeLine):Builtin.List.listTooLong n=false:=by
 unfold Builtin.List.listTooLong
 exact decide_eq_false (by omega)
end
section
variable {X:Cx}
noncomputable def DZ:V->List V->Hp->VK->Prop:=λx vs H Q=>∃l xs y,x = .ref l/\vs = [y]/\H l=some (.lst xs)/\xs.length<sizeLine/\Q .ao (upd H l (.lst (xs ++ [y])))
theorem oP:LU X "list.append" DZ:=by
 intro pins s σ H x vs v us Q I rx rv h
 obtain⟨l,xs,y,rfl,rfl,hH,hz,q⟩:=h
 cases rx
 obtain⟨u,rfl,ru⟩:=rv.one
 obtain⟨z,ah,n,r,hl,e⟩:=I.GN hH
 refine call_meets F.slot_list_append ⟨_,e,rfl⟩ F.entry_list_append (F.args_list_append_2 _ _) (PySem.list_append l ah.toArray n u (by rw[List.size_toArray];omega)) ⟨e,?_⟩
 refine⟨.ao,_,I.GL (its':=ah ++ [u]) hH e (by simp) (r.append (.cons ru .nil)) ?_,rfl,q⟩
 rw[List.length_append,List.length_singleton]
 omega
theorem len_rep {α:Type}(xs:List α)(k:Nat):(List.replicate k xs).flatten.length=k*xs.length:=by
 induction k with
 |zero=>simp
 |succ k ih=>rw[List.replicate_succ,List.flatten_cons,List.length_append,ih,Nat.succ_mul,Nat.add_comm]
end
end L2
namespace x5
open PySem PySem.W PySem.Calls PyProof.Rows
theorem mE {P:Params}{h:Heap}:∀(ns:List Int) (vs:List Value),WellAll P h vs (ns.map WData.int)->IntsAre vs ns:=by
 intro ns
 induction ns with
 |nil =>
  intro vs w
  rw[List.map_nil]at w
  cases w
  exact .nil
 |cons n ns ih =>
  intro vs w
  rw[List.map_cons]at w
  cases w with
  |cons a b =>
   cases a
   exact .cons _ _ (ih _ b)
theorem x6 {l:OpenLaw}{n:Nat}(hn:l.most=some n){P:Params}{h:Heap}{args:List WData}{vals:List Value}
  (v_:l.row.toRowW.claim.pre args=true) (GO:WellAll P h vals args):
  ∃a vs ns,vals = [Value.ref a]/\args = [WData.list (ns.map WData.int)]/\h.get? a=some { cls:=.type "list",data:=.seq vs.toArray }/\IntsAre vs ns/\ns.length<=n:=by
 have GP:WShape.hasAll [] args [.list .int]=true:=(pre_splitW v_).1
 have hc:l.pre.holds [] { args:=args }=true:=(pre_splitW v_).2
 obtain⟨d,r,rfl,h1,h2⟩:=hasAllW_cons GP
 obtain rfl:=hasAllW_nil h2
 obtain⟨xs,rfl,h3⟩:=hasW_list h1
 obtain⟨ns,rfl⟩:=items_int h3
 have hlen:ns.length<=n:=by
  unfold OpenLaw.pre at hc
  have h4:(WTm.not (.lt (.lit (.int (n:Int))) (.len (.arg 0)))).holds [] { args:=[.list (ns.map .int)] }=true:=by
   have h4:=(holds_andW hc).1
   rw[hn]at h4
   exact h4
  have h5:=condW_of h4 (w_not (w_lt w_lit (w_len_list (w_arg rfl))))
  rw[List.length_map]at h5
  refine Nat.le_of_not_lt λq=>?_
  have q':(n:Int)<((ns.length:Nat):Int):=by omega
  first
   | (rw[decide_eq_true q']at h5;exact absurd h5 (by decide))
   | (simp at h5;omega)
 cases GO with
 |cons w1 w2 =>
  cases w2
  cases w1 with
  |list ho nS=>exact⟨_,_,ns,rfl,rfl,ho,mE ns _ nS,hlen⟩
theorem x8 (l:OpenLaw)(args:List WData):l.row.toRowW.claim.post args (.bool true) args=true :=
 postW_of (r:=l.row.toRowW) (X:=(true == true))
  (show WShape.has [] (.bool true) .bool=true by first|rfl|decide|simp[WShape.has,WShape.arms,WShape.armsAll])
  (show(WTm.eq .res (.lit (.bool true))).value [] { args:=args,res:=some (.bool true),after:=args }=some (.bool (true == true)) from w_eq_bool (w_res rfl) w_lit) rfl
theorem t8 {l:OpenLaw}{n:Nat}{q:Program}{loose:List Str}{XP:(Str->Option Value)->Heap->Prop}{YP:World->Heap->Prop}{d:DefRec}
  (hn:l.most=some n) (qM:d.params.defaults = [])
  (call:∀(w:World) (s₀ s₁:Shared) (mg mb:Str->Option Value) (fa:Addr) (o:Obj) (pm cd doc:Value) (a:Addr) (vs:List Value) (ns:List Int),
   Ground q loose [] XP w s₀ mg mb s₁.heap->YP w s₁.heap ->
   s₁.heap.get? fa=some o->o.data = .func (docDef d.name d.params d.body d.scope pm cd doc)->s₁.heap.CodeRec cd d.name->mg d.name=some (.ref fa) ->
   s₁.heap.get? a=some { cls:=.type "list",data:=.seq vs.toArray }->IntsAre vs ns->ns.length<=n->s₁.gens = #[] ->
   codeAny (model l.prog w) callerA (.call (.ref fa) ⟨[.ref a],[]⟩) (λr s'=>r = .ok (.ret (.bool true))/\OldK s₁.heap s'.heap/\s'.os=s₁.os/\AllBare s'.gens) s₁):
  WalkO q loose XP YP l.row.toRowW d [] (λf vs=>PySem.call f vs):=by
 intro w s₀ s₁ mg mb G Y fa o pm cd doc dV kV ho hd lu hD GQ hg args vals as v_ SV Tf GO LV
 obtain rfl:dV = .none:=Dflts.none hD qM
 obtain rfl:kV = .none:=Dflts.noKw hD
 obtain⟨a,vs,ns,rfl,rfl,AJ,hints,hlen⟩:=x6 hn v_ GO
 refine enter_call (codeAny_mono (call w s₀ s₁ mg mb fa o pm cd doc a vs ns G Y ho (fd_plain hd) lu GQ AJ hints hlen hg) λr s' hq=>?_)
 obtain⟨rfl,h2,h3,h4⟩:=hq
 exact⟨.inl ⟨.bool true,.bool true,[],rfl,λ_=>rfl,.bool true,x8 l _,λ_=>⟨List.Pairwise.nil,λ_ hm=>(nomatch hm)⟩⟩,h2,h3,h4⟩
end x5
namespace L2
open PySem PySem.Spec PyProof.Rows
theorem fO:∀{vs:List Value} {ns:List Int},IntsAre vs ns->Vals (ns.map V.int) vs
 |_,_,.nil=>.nil
 |_,_,.cons n t h=>.cons ⟨t,rfl⟩ (fO h)
def AK (H:Hp):Prop:=∀b,H b=none \/ ∃o xs,H b=some (.jS o (.lst xs))
theorem AL {P:Program}{w:World}{K:PySem.W.Frag}{mg mb:Str->Option Value}{CX:jX}{k:Nat}{fa a:Addr}{fd:FuncData}{x:Str}{sp:Sp}{s₁:Shared}{vs:List Value}{ns:List Int}
  (KX:K.In s₁.heap) (B_:s₁.heap.Ns mainGlobals mg) (hb:s₁.heap.Ns builtinsNs mb) (Qm:∀x:Str,x ≠ "__name__"->mb x=bootBuiltins x) (NC:s₁.heap.NoLimit) (hg:s₁.gens = #[])
  (ha:s₁.heap.get? a=some { cls:=.type "list",data:=.seq vs.toArray }) (hi:IntsAre vs ns) (hl:ns.length<=sizeLine) (hr:b9 k callerA)
  (F:∀base:Heap,K.In base->base.Ns mainGlobals mg->cC P w K mg base CX k fa fd [x] sp) (KI:∀(s:Shared) (u:Value),BindsTo s fd ⟨[u],[]⟩ [(x,u)])
  (oN:∀H:Hp,AK H->b7 K H a (ns.map V.int)->sp [.ref a] H (λv _=>v = .bl true) λ_ _ _=>False)
  (GR:∀H e s',CX [] H s₁ (λ_ _ _=>False) e s'->False):
  codeAny (model P w) callerA (.call (.ref fa) ⟨[.ref a],[]⟩) (λr s'=>r = .ok (.ret (.bool true))/\OldK s₁.heap s'.heap/\s'.os=s₁.os/\AllBare s'.gens) s₁:=by
 have rv:=fO hi
 have ND:=hi.length
 have core:∀H:Hp,AK H->b7 K H a (ns.map V.int)->dh P w H s₁.heap->(∀b,H b≠none->b=a)->(H a≠none->K.lookup a=none) ->
    codeAny (model P w) callerA (.call (.ref fa) ⟨[.ref a],[]⟩) (λr s'=>r = .ok (.ret (.bool true))/\OldK s₁.heap s'.heap/\s'.os=s₁.os/\AllBare s'.gens) s₁:=by
  intro H hO hS aV hA hK
  have base_of:∀{b:Addr} {o:Obj},s₁.heap.get? b=some o->H b=none->(jc s₁.heap H).get? b=some o:=λe n=>As e n
  have xY:∀{b:Addr} {o:Obj} {es:Array DictEntry} {ep:Nat},s₁.heap.get? b=some o->o.data = .dict es ep->H b=none:=fun {b o es ep} e d=>by
    cases q:H b with
    |none=>rfl
    |some u =>
      have e':b=a:=hA b (by rw[q];simp)
      subst e'
      rw[ha]at e;cases e
      have d':Data.seq vs.toArray _=Data.dict es ep:=d
      cases d'
  have Ca:∀{b:Addr} {m:Str->Option Value},s₁.heap.Ns b m->(jc s₁.heap H).Ns b m:=fun {b m} ⟨o,es,ep,e,d,r⟩=>⟨o,es,ep,base_of e (xY e d),d,r⟩
  have LW:K.In (jc s₁.heap H):=λb o e=>base_of (KX b o e) (by
    cases q:H b with
    |none=>rfl
    |some u =>
      have e':b=a:=hA b (by rw[q];simp)
      subst e'
      rw[hK (by rw[q];simp)]at e;cases e)
  have hM:Mod K mg (jc s₁.heap H):=⟨LW,Ca B_,⟨mb,Ca hb,Qm⟩,let⟨mc,h1,h2⟩:=NC;⟨mc,Ca h1,h2⟩⟩
  have e0:vU P w K mg (jc s₁.heap H) callerA [] s₁ H:=⟨rfl,hM,λb o e=>Dt e,Nat.le_of_eq (xC _ _),trivial,λb hb=>absurd (show b∈([]:List Addr) from hb) (by simp),aV,.of_eq hg⟩
  refine codeAny_mono ((F _ LW (Ca B_)).run callerA [] s₁ H ⟨[.ref a],[]⟩ [.ref a] [.ref a] _ _ hr e0 (KI s₁ (.ref a)) (.cons rfl .nil) (oN H hO hS)) λr s' h=>?_
  cases r with
  |error e=>exact(GR H e s' h).elim
  |ok fl =>
    cases fl with
    |next=>exact False.elim h
    |brk=>exact False.elim h
    |cont=>exact False.elim h
    |ret u =>
      obtain⟨v,H',os,bare,un,NF,r',q⟩:=h
      have q':v = .bl true:=q
      subst q'
      obtain rfl:u=Value.bool true:=r'
      refine⟨rfl,OldK.of_keep λb o e=>?_,os,bare⟩
      cases q:H b with
      |none=>exact un.keep b o e q (by intro z;exact absurd (show b∈([]:List Addr) from z) (by simp)) (by simp)
      |some u =>
       rcases hO b with z|⟨ob,xs,z⟩
       . rw[q]at z;cases z
       . have z2:=un.jb b ob _ z
         obtain⟨e1,_⟩:=aV b _ z
         obtain⟨e2,_⟩:=NF b _ z2
         rw[e]at e1;cases e1
         exact e2
 cases hk:K.lookup a with
 |some o =>
  have e:=KX a o hk
  rw[ha]at e
  cases e
  refine core (λ_=>none) (λ_=>.inl rfl) (.inr ⟨_,vs.toArray,_,hk,rfl,rfl,rfl,by rw[List.size_toArray,ND];exact hl,by simpa using rv⟩) (λb u z=>by have z':(none:Option HO)=some u:=z;cases z') (λb z=>absurd rfl z) λz=>absurd rfl z
 |none =>
  refine core (λb=>if b=a then some (.jS { cls:=.type "list",data:=.seq vs.toArray } (.lst (ns.map V.int)))else none) (λb=>?_) (.inl (.inr ⟨{ cls:=.type "list",data:=.seq vs.toArray },if_pos rfl⟩)) (λb u z=>?_) (λb z=>?_) λ_=>hk
  . by_cases hb:b=a
    . exact .inr ⟨_,_,if_pos hb⟩
    . exact .inl (if_neg hb)
  . by_cases hb:b=a
    . have z':=(if_pos hb).symm.trans z
      cases z'
      subst hb
      exact⟨ha,by rw[List.length_map];exact hl,vs,_,rv,ha⟩
    . have z':=(if_neg hb).symm.trans z
      cases z'
  . by_cases hb:b=a
    . exact hb
    . exact absurd (if_neg hb) z
theorem D0 {l:PySem.W.OpenLaw}{n k:Nat}{q:Program}{loose:List Str}{XP:(Str->Option Value)->Heap->Prop}{YP:World->Heap->Prop}{d:DefRec}{K:Params->PySem.W.Frag}{CX:World->jX}{sp:World->Sp}{x:Str}
  (hn:l.most=some n) (Qn:n<=sizeLine) (qM:d.params.defaults = []) (hr:b9 k callerA)
  (hY:∀(w:World) (h:Heap),YP w h->(K w.params).In h)
  (F:∀(w:World) (mg:Str->Option Value) (fa:Addr) (h:Heap),(K w.params).In h->h.Ns mainGlobals mg->mg d.name=some (.ref fa) ->
   ∃fd:FuncData,(∀(s:Shared) (u:Value),BindsTo s fd ⟨[u],[]⟩ [(x,u)]) /\
    ∀base:Heap,(K w.params).In base->base.Ns mainGlobals mg->cC l.prog w (K w.params) mg base (CX w) k fa fd [x] (sp w))
  (oN:∀(w:World) (H:Hp) (a:Addr) (ns:List Int),ns.length<=n->AK H->b7 (K w.params) H a (ns.map V.int)->sp w [.ref a] H (λv _=>v = .bl true) λ_ _ _=>False)
  (GR:∀(w:World) (H:Hp) (s:Shared) (e:Value) (s':Shared),CX w [] H s (λ_ _ _=>False) e s'->False):
  PySem.W.WalkO q loose XP YP l.row.toRowW d [] (λf vs=>PySem.call f vs):=by
 refine x5.t8 hn qM λw s₀ s₁ mg mb fa o pm cd doc a vs ns G Y ho hd lu GQ AJ hints hlen hg=>?_
 have KX:=hY w _ Y
 obtain⟨fd,hb,hF⟩:=F w mg fa _ KX G.T.g GQ
 exact AL KX G.T.g G.T.b G.T.builtins G.T.nolimit hg AJ hints (Nat.le_trans hlen Qn) hr hF hb (λH hO hS=>oN w H a ns hlen hO hS) λH e s'=>GR w H s₁ e s'
noncomputable def gv (s:Stmt):Arguments:=match s with
 |.FunctionDef _ a _ _ _ _ _ _ _ _=>a
 |_=>{ posonlyargs:=[],args:=[],vararg:=none,kwonlyargs:=[],kw_defaults:=[],kwarg:=none,defaults:=[] }
noncomputable def c5 (s:Stmt):List Stmt:=match s with
 |.FunctionDef _ _ b _ _ _ _ _ _ _=>b
 |_=>[]
noncomputable def aS (s:Stmt):Scope:=match s with
 |.FunctionDef _ _ _ _ _ _ sc _ _ _=>sc
 |_=>{ kind:=.function,names:=[],isGenerator:=false,isCoroutine:=false }
abbrev gh:jX:=λ_ _ _ _ _ _=>False
abbrev E0:XK:=λ_ _ _=>False
theorem Cb {X:Cx}:Passes gh X E0:=λ_ _ _ _ _ _ _ h=>h.elim
structure uC (K:PySem.W.Frag)(x qual:Str)(st:Stmt)(f:Addr)(fd:FuncData):Prop where
 ex:∃(oc:Value) (od:Option Addr) (kV doc pm:Value) (an:Option Addr) (cP ct:Value) (qC:Array (Option Value)),
  fd=PySem.W.fnOf x qual (gv st) (c5 st) (aS st) .none kV doc pm an cP ct/\K.lookup f=some ⟨oc,od,.func fd,qC⟩/\PySem.W.codeIn K cP qual=true
 kp:PySem.W.keepIn K (.ref f)=true
section
variable {P:Program}{w:World}{K:PySem.W.Frag}{mg:Str->Option Value}{base:Heap}
theorem uC.ok {x qual:Str}{st:Stmt}{f:Addr}{fd:FuncData}{N ps:List Str}{k:Nat}{sp:Sp}(F:uC K x qual st f fd)(S:gu N ps (aS st))(len:∀vs H Q E,sp vs H Q E->vs.length=ps.length)
  (vW:∀(cP:Value) (A:Around) (outer:List Env) (s:Shared) (H:Hp) (vs:List V) (Q:VK) (E:XK),b9 k (A.deeper (envOfC qual (aS st) s.heap.objs.size f cP))->sp vs H Q E ->
   ∃t,eM (jY gh P w K mg base N qual (aS st) f cP A outer s H E).uu (c5 st) t/\t { nx:=λ_ H'=>Q .ao H',rt:=Q } (start N vs) H):cC P w K mg base gh (k+1) f fd ps sp:=by
 obtain⟨oc,od,kV,doc,pm,an,cP,ct,qC,rfl,lk,lu⟩:=F.ex
 refine KA lk lu S len λA outer s H vs Q E hr oN=>?_
 obtain⟨t,h,q⟩:=vW cP A outer s H vs Q E hr oN
 exact⟨t,h.uu,q⟩
theorem GS {x qual:Str}{st:Stmt}{f:Addr}{oc:Value}{od an:Option Addr}{qC:Array (Option Value)}{kV doc pm cP ct:Value}(l:K.lookup f=some ⟨oc,od,.func (PySem.W.fnOf x qual (gv st) (c5 st) (aS st) .none kV doc pm an cP ct),qC⟩)
 (c:PySem.W.codeIn K cP qual=true) (k:PySem.W.keepIn K (.ref f)=true):uC K x qual st f (PySem.W.fnOf x qual (gv st) (c5 st) (aS st) .none kV doc pm an cP ct):=⟨⟨oc,od,kV,doc,pm,an,cP,ct,qC,rfl,l,c⟩,k⟩
end
end L2
namespace SW
open PySem PySem.Spec PyProof.Rows
theorem gw:Slot "set_iterator" "__next__" "set_iterator.__next__" :=
 .of (owner:="set_iterator") (n:="__next__") (by rw[typeLookup_type,builtinLookup_eq_fast];kernel_rfl) (by decide +kernel) (by decide +kernel) (by decide +kernel)
  (by first|exact .inl (by decide +kernel)|exact .inr (by decide +kernel)) (by rw[isSubtype_type];kernel_rfl)
theorem uD:entryFor table "set_iterator.__next__" = some Builtin.«set_iterator.__next__»:=entryFor_of_tree (by kernel_rfl)
theorem uE (a:Value):argsOk "set_iterator.__next__" ⟨[a],[]⟩:=by unfold argsOk;kernel_rfl
theorem D1:entryFor table "set.__iter__" = some Builtin.«frozenset.__iter__» :=
 entryFor_alias (id':="frozenset.__iter__") (by kernel_rfl) rfl (by decide +kernel) (by kernel_rfl)
noncomputable def lC (slot i:Nat)(a:Addr)(n ep:Nat):Obj:={ cls:=.type "set_iterator",data:=.fields #[rawInt slot,rawInt i,.ref a,rawInt n,rawInt ep] }
noncomputable def dM (es:Array (Int×Value))(ep:Nat)(t:SetTable):Obj:={ cls:=.type "set",data:=.set es ep t }
section
variable {prog:Program}{w:World}{A:Around}{E:Value->Shared->Prop}{s:Shared}{I a:Addr}{es:Array (Int×Value)}{ep:Nat}{t:SetTable}{slot i:Nat}
theorem qN {slot':Nat}{hh:Int}{Q:Option (Value×Nat)->Shared->Prop}(ha:s.heap.get? a=some (dM es ep t))(hf:t.fits es.size=true)
  (hb:w.params.followText "set-order" = false) (hl:t.led=true) (hp:t.plain=true)
  (hQ:Q (match es[SetTable.below t.place slot]?,t.place[SetTable.below t.place slot]? with|some (_,x),some j=>some (x,j+1)|_,_=>none) s):wpAny (model prog w) A (setNext a slot i ep) Q E s:=by
 unfold setNext
 refine wpAny_bind (wpAny_setState_of ha rfl hf ?_)
 dsimp only
 unfold setsByText
 refine wpAny_bind (wpAny_bind (wpAny_askSetting (wpAny_pure ?_)))
 have eD:(Setting.params ⟨(model prog w).prog,(model prog w).w.params⟩).followText "set-order" = false:=hb
 rw[eD]
 simp only[Bool.false_eq_true,if_false]
 have dr:¬(!t.plain&&decide (es.size>1))=true:=by simp[hp]
 show wpAny _ _ (if(!t.plain&&decide (es.size>1))=true then _ else _) _ _ s
 rw[if_neg dr]
 have lr:¬(!t.led && !es.isEmpty)=true:=by simp[hl]
 show wpAny _ _ ((if(!t.led && !es.isEmpty)=true then unsupported "set:maker-not-led" else pure ()) >>= _) _ _ s
 rw[if_neg lr]
 exact wpAny_bind (wpAny_pure (wpAny_pure hQ))
theorem oQ {Q:Option (Value×Nat)->Shared->Prop}(ha:s.heap.get? a=some (dM es ep t))(hf:t.fits es.size=true)
  (hb:w.params.followText "set-order" = true)
  (hQ:Q (((pickOrder (w.params.setOrder a ep) es)[i]?).map λe=>(e.2,slot)) s):wpAny (model prog w) A (setNext a slot i ep) Q E s:=by
 have eD:(Setting.params ⟨(model prog w).prog,(model prog w).w.params⟩).followText "set-order" = true:=hb
 unfold setNext
 refine wpAny_bind (wpAny_setState_of ha rfl hf ?_)
 dsimp only
 unfold setsByText
 refine wpAny_bind (wpAny_bind (wpAny_askSetting (wpAny_pure ?_)))
 rw[eD]
 have ee:(ep != ep)=false:=by simp
 simp only[if_true,ee,Bool.false_eq_true,if_false]
 refine wpAny_bind ?_
 unfold setWalk setsByText
 refine wpAny_bind (wpAny_setState_of ha rfl hf ?_)
 dsimp only
 refine wpAny_bind (wpAny_bind (wpAny_askSetting (wpAny_pure ?_)))
 rw[eD]
 simp only[if_true]
 refine wpAny_bind (wpAny_askSetting ?_)
 exact wpAny_pure (wpAny_pure hQ)
theorem x9 {x:Value}{gE:Nat}{Q:Option Value->Shared->Prop}(hI:s.heap.get? I=some (lC slot i a es.size ep))(ha:s.heap.get? a=some (dM es ep t))(hf:t.fits es.size=true)
   (hn:∀(A:Around) (E:Value->Shared->Prop) (Q:Option (Value×Nat)->Shared->Prop),Q (some (x,gE)) s->wpAny (model prog w) A (setNext a slot i ep) Q E s)
   (hQ:∀h',h'.get? I=some (lC gE (i+1) a es.size ep)->Heap.SameBut I s.heap h'->Q (some x) { s with heap:=h' }):wpAny (model prog w) A (pyNext (.ref I)) Q E s:=by
 have hT:s.TypeIs (.ref I) "set_iterator":=⟨_,hI,rfl⟩
 unfold pyNext
 refine wpAny_bind (wpAny_attempt (wpAny_callSpecial?_slot (name:=Str.ofString "__next__") hT gw (wpAny_call_entry gw hT uD ?bd (uE _))))
 unfold Builtin.«set_iterator.__next__»
 refine wpAny_bind (wpAny_pure ?_)
 refine wpAny_bind (wpAny_fieldsOf hI rfl ?_)
 show wpAny _ _ (setEntries a >>= _) _ _ s
 refine wpAny_bind (wpAny_setEntries_of ha rfl hf ?_)
 have cY:(((es.size:Nat):Int) != ((es.size:Nat):Int))=false:=by simp
 dsimp only
 rw[cY]
 simp only[Bool.false_eq_true,if_false]
 show wpAny _ _ (setNext a (Int.toNat (slot:Int)) (Int.toNat (i:Int)) (Int.toNat (ep:Int)) >>= _) _ _ s
 rw[Int.toNat_natCast,Int.toNat_natCast,Int.toNat_natCast]
 refine wpAny_bind (hn _ _ _ ?_)
 dsimp only
 refine wpAny_bind (wpAny_setField hI rfl (by simp) ?_)
 have h1:=Heap.get?_update_self (Obj.mapFields (·.setIfInBounds 0 (rawInt (gE:Int)))) hI (by rfl)
 refine wpAny_bind (wpAny_setField h1 (vs:=#[rawInt (gE:Int),rawInt i,.ref a,rawInt es.size,rawInt ep]) (by rfl) (by simp) ?_)
 refine wpAny_pure ⟨x,rfl,wpAny_pure (hQ _ ?_ ?_)⟩
 . exact(Heap.get?_update_self (Obj.mapFields (·.setIfInBounds 1 (rawInt ((i:Int)+1)))) h1 (by rfl)).trans rfl
 . exact(Heap.SameBut.update ..).trans (Heap.SameBut.update ..)
theorem x_ {Q:Option Value->Shared->Prop}(hh:A.handled=none)(hI:s.heap.get? I=some (lC slot i a es.size ep))(ha:s.heap.get? a=some (dM es ep t))(hf:t.fits es.size=true)
  (hn:∀(A:Around) (E:Value->Shared->Prop) (Q:Option (Value×Nat)->Shared->Prop),Q none s->wpAny (model prog w) A (setNext a slot i ep) Q E s)
  (hQ:∀h',Heap.ExtBut I s.heap h'->Q none { s with heap:=h' }):wpAny (model prog w) A (pyNext (.ref I)) Q E s:=by
 have hT:s.TypeIs (.ref I) "set_iterator":=⟨_,hI,rfl⟩
 unfold pyNext
 refine wpAny_bind (wpAny_attempt (wpAny_callSpecial?_slot (name:=Str.ofString "__next__") hT gw (wpAny_call_entry gw hT uD ?bd (uE _))))
 unfold Builtin.«set_iterator.__next__»
 refine wpAny_bind (wpAny_pure ?_)
 refine wpAny_bind (wpAny_fieldsOf hI rfl ?_)
 show wpAny _ _ (setEntries a >>= _) _ _ s
 refine wpAny_bind (wpAny_setEntries_of ha rfl hf ?_)
 have cY:(((es.size:Nat):Int) != ((es.size:Nat):Int))=false:=by simp
 dsimp only
 rw[cY]
 simp only[Bool.false_eq_true,if_false]
 show wpAny _ _ (setNext a (Int.toNat (slot:Int)) (Int.toNat (i:Int)) (Int.toNat (ep:Int)) >>= _) _ _ s
 rw[Int.toNat_natCast,Int.toNat_natCast,Int.toNat_natCast]
 refine wpAny_bind (hn _ _ _ ?_)
 dsimp only
 refine wpAny_bind (wpAny_setField hI rfl (by simp) ?_)
 refine wpAny_bind ?_
 simp only[newExc,newTuple]
 refine wpAny_bind (wpAny_newObj_type ?_ (by size_fits))
 refine wpAny_bind (m:=firstArgMember _ _) (wpAny_of_eq (a:=Value.none) (by first|rfl| (simp only[firstArgMember];rfl)) ?_)
 refine wpAny_newObj_type ?_ (by size_fits)
 simp only[raiseNew]
 refine wpAny_bind (wpAny_handled ?_)
 rw[show A.in1.handled=none from hh]
 refine wpAny_bind (wpAny_pure (wpAny_throw ?_))
 refine wpAny_bind (wpAny_isInstance (T:="StopIteration") (b:=true) ⟨_,Heap.get?_push_size _ rfl,rfl⟩ isSubtype_stop ?_)
 exact wpAny_pure (hQ _ (((Heap.SameBut.update ..).extBut.push _).push _))
end
theorem uF:Slot "set_iterator" "__iter__" "set_iterator.__iter__" :=
 .of (owner:="set_iterator") (n:="__iter__") (by rw[typeLookup_type,builtinLookup_eq_fast];kernel_rfl) (by decide +kernel) (by decide +kernel) (by decide +kernel)
  (by first|exact .inl (by decide +kernel)|exact .inr (by decide +kernel)) (by rw[isSubtype_type];kernel_rfl)
theorem D2:entryFor table "set_iterator.__iter__" = some Builtin.«dict_keyiterator.__iter__» :=
 entryFor_alias (id':="dict_keyiterator.__iter__") (by kernel_rfl) rfl (by decide +kernel) (by kernel_rfl)
theorem D3 (a:Value):argsOk "set_iterator.__iter__" ⟨[a],[]⟩:=by unfold argsOk;kernel_rfl
section
variable {prog:Program}{w:World}{A:Around}{E:Value->Shared->Prop}{s:Shared}{I a:Addr}{es:Array (Int×Value)}{ep:Nat}{t:SetTable}{slot i:Nat}
theorem ya {Q:Value->Shared->Prop}(hI:s.heap.get? I=some (lC slot i a es.size ep))(h:Q (.ref I) s):wpAny (model prog w) A (pyIter (.ref I)) Q E s:=by
 have hT:s.TypeIs (.ref I) "set_iterator":=⟨_,hI,rfl⟩
 refine wpAny_pyIter_slot hT uF (wpAny_call_entry uF hT D2 ?_ (D3 _))
 show wpAny _ _ (ret (.ref I)) _ _ s
 exact wpAny_pure ⟨_,rfl,"set_iterator",_,hT,gw.lookup,h⟩
structure Way (prog:Program)(w:World)(a:Addr)(es:Array (Int×Value))(ep:Nat)(t:SetTable)(ord:List Value)(ok:Nat->Nat->Prop):Prop where
 fit:t.fits es.size=true
 len:ord.length=es.size
 zero:ok 0 0
 step:∀i slot,i<es.size->ok i slot->∃x gE,ord[i]? = some x/\ok (i+1) gE /\ ∀(s:Shared) (A:Around) (E:Value->Shared->Prop) (Q:Option (Value×Nat)->Shared->Prop),s.heap.get? a=some (dM es ep t)->Q (some (x,gE)) s->wpAny (model prog w) A (setNext a slot i ep) Q E s
 stop:∀slot,ok es.size slot->∀(s:Shared) (A:Around) (E:Value->Shared->Prop) (Q:Option (Value×Nat)->Shared->Prop),s.heap.get? a=some (dM es ep t)->Q none s->wpAny (model prog w) A (setNext a slot es.size ep) Q E s
theorem walks {ord:List Value}{ok:Nat->Nat->Prop}(W:Way prog w a es ep t ord ok)(hh:A.handled=none)(cY:a≠I):
  Walks prog w A I [I,a] [I] es.size (λi v=>ord[i]? = some v) (λi h=>(∃slot,ok i slot/\h.get? I=some (lC slot i a es.size ep))/\h.get? a=some (dM es ep t)) where
 sub:=λb hb=>by simp at hb;simp[hb]
 frame:=λ_ _ _ st hk=>⟨let⟨sl,q,e⟩:=st.1;⟨sl,q,hk I (by simp) _ e⟩,hk a (by simp) _ st.2⟩
 item:=λi s Q E hi st hQ=>by
  obtain⟨⟨sl,q,e⟩,ha⟩:=st
  obtain⟨x,gE,hx,hq,hn⟩:=W.step i sl hi q
  refine x9 e ha W.fit (λA E Q h=>hn s A E Q ha h) λh' Qo hs=>?_
  exact hQ _ h' s.toks hx ⟨⟨gE,hq,Qo⟩,hs.extBut a _ cY ha⟩ λb o hb e=>hs.extBut b o (λh=>hb (by simp[h])) e
 done:=λs Q E st hQ=>by
  obtain⟨⟨sl,q,e⟩,ha⟩:=st
  exact x_ hh e ha W.fit (λA E Q h=>W.stop sl q s A E Q ha h) λh' he=>hQ h' s.toks λb o hb e=>he b o (λh=>hb (by simp[h])) e
 self:=λi s Q E st hQ=>by
  obtain⟨⟨sl,q,e⟩,ha⟩:=st
  exact ya e hQ
theorem uG {α:Type}:∀(l:List α) (i:Nat) (h:i<l.length),(l[i]::l.eraseIdx i).Perm l
 |x::l,0,h=>by simp
 |x::l,i+1,h=>by
  have:=uG l i (by simpa using h)
  simp only[List.getElem_cons_succ,List.eraseIdx_cons_succ]
  exact(List.Perm.swap _ _ _).trans (this.cons x)
theorem uH {α:Type}(f:Nat->Nat):∀(n k:Nat) (l:List α) (out:Array α),n=l.length->(pickOrder.go f n k l out).toList.Perm (out.toList++l)
 | 0,k,l,out,h=>by
  have:l = []:=List.length_eq_zero_iff.mp h.symm
  subst this
  simp[pickOrder.go]
 |n+1,k,l,out,h=>by
  have hl:0<l.length:=by omega
  have hm:=Nat.mod_lt (f k) hl
  rw[pickOrder.go,List.getElem?_eq_getElem hm]
  dsimp only
  refine(uH f n (k+1) _ _ (by rw[List.length_eraseIdx_of_lt hm];omega)).trans ?_
  rw[Array.toList_push,List.append_assoc,List.singleton_append]
  exact List.Perm.append_left _ (uG l _ hm)
theorem oR {α:Type}(f:Nat->Nat)(xs:Array α):(pickOrder f xs).toList.Perm xs.toList:=by
 have:=uH f xs.size 0 xs.toList #[] (by simp)
 simpa[pickOrder]using this
theorem NG (hf:t.fits es.size=true)(hb:w.params.followText "set-order" = true):Way prog w a es ep t ((pickOrder (w.params.setOrder a ep) es).toList.map (·.2)) (λ_ slot=>slot=0):=by
 have hl:(pickOrder (w.params.setOrder a ep) es).toList.length=es.toList.length:=(oR _ es).length_eq
 have hs:(pickOrder (w.params.setOrder a ep) es).size=es.size:=by simpa using hl
 refine⟨hf,by simp[hs],rfl,λi slot hi h0=>?_,λslot h0 s A E Q ha hQ=>?_⟩
 . subst h0
   have iH:i<(pickOrder (w.params.setOrder a ep) es).size:=by omega
   refine⟨(pickOrder (w.params.setOrder a ep) es)[i].2,0,by simp[iH],rfl,λs A E Q ha hQ=>?_⟩
   refine oQ ha hf hb ?_
   rw[Array.getElem?_eq_getElem iH]
   exact hQ
 . subst h0
   refine oQ ha hf hb ?_
   rw[Array.getElem?_eq_none (by omega)]
   exact hQ
theorem NH (hf:t.fits es.size=true)(hb:w.params.followText "set-order" = false)(hl:t.led=true)(hp:t.plain=true)(hs:t.place.size=es.size)(h0:SetTable.below t.place 0=0)
   (hw:∀i j,t.place[i]? = some j->SetTable.below t.place (j+1)=i+1):Way prog w a es ep t (es.toList.map (·.2)) (λi slot=>SetTable.below t.place slot=i):=by
 refine⟨hf,by simp,h0,λi slot hi h=>?_,λslot h s A E Q ha hQ=>?_⟩
 . have hj:i<t.place.size:=by omega
   refine⟨es[i].2,t.place[i]+1,by simp[hi],hw i _ (Array.getElem?_eq_getElem hj),λs A E Q ha hQ=>?_⟩
   refine qN (slot':=0) (hh:=0) ha hf hb hl hp ?_
   rw[h,Array.getElem?_eq_getElem hi,Array.getElem?_eq_getElem hj]
   exact hQ
 . refine qN (slot':=0) (hh:=0) ha hf hb hl hp ?_
   rw[h,Array.getElem?_eq_none (by omega)]
   exact hQ
end
theorem AM:typeLookup (.type "set") "__len__" = pure (some (.builtin "set.__len__")):=by rw[typeLookup_type,builtinLookup_eq_fast];kernel_rfl
section
variable {prog:Program}{w:World}{A:Around}{E:Value->Shared->Prop}{s:Shared}{I a:Addr}{es:Array (Int×Value)}{ep:Nat}{t:SetTable}{slot i:Nat}
theorem yb {Q:Bool->Shared->Prop}(ha:s.heap.get? a=some (dM es ep t))(hf:t.fits es.size=true)(hd:w.params.followText "set-order" = true\/t.plain=true)(hQ:Q false s):wpAny (model prog w) A (setDrawn a) Q E s:=by
 unfold setDrawn
 refine wpAny_bind (wpAny_setState_of ha rfl hf ?_)
 dsimp only
 unfold setsByText
 refine wpAny_bind (wpAny_bind (wpAny_askSetting (wpAny_pure ?_)))
 have e:(!w.params.followText "set-order" && (!t.plain&&decide (es.size>1)))=false:=by
  rcases hd with h|h<;>simp[h]
 refine wpAny_pure ?_
 show Q (!w.params.followText "set-order" && (!t.plain&&decide (es.size>1))) s
 rw[e]
 exact hQ
theorem AN {Q:Value->Shared->Prop}(ha:s.heap.get? a=some (dM es ep t))(hf:t.fits es.size=true)(hd:w.params.followText "set-order" = true\/t.plain=true)
  (hQ:Q (.ref s.heap.objs.size) { s with heap:=s.heap.push (lC 0 0 a es.size ep) }):wpAny (model prog w) A (pyIter (.ref a)) Q E s:=by
 have hT:s.TypeIs (.ref a) "set":=⟨_,ha,rfl⟩
 refine wpAny_pyIter_slot hT F.slot_set_iter (wpAny_call_entry F.slot_set_iter hT D1 ?_ (F.args_set_iter_1 _))
 unfold Builtin.«frozenset.__iter__» Builtin.Frozenset.slot0 slotArgs
 simp only[List.isEmpty_nil,Bool.not_true,Bool.false_eq_true,↓reduceIte,bind_assoc,List.length_nil,bne_self_eq_false]
 unfold Builtin.Frozenset.addrOf Builtin.Frozenset.sizeOf
 refine wpAny_bind (wpAny_pure ?_)
 try dsimp only
 refine wpAny_bind (wpAny_pure ?_)
 refine wpAny_bind (wpAny_bind (wpAny_setEntries_of ha rfl hf (wpAny_pure ?_)))
 refine wpAny_bind (yb ha hf hd ?_)
 simp only[Bool.false_eq_true,if_false]
 refine wpAny_bind (wpAny_pure ?_)
 refine wpAny_bind (wpAny_setEpoch_of ha rfl hf ?_)
 refine wpAny_bind (m:=newFields _ _) (wpAny_newObj_type ?_)
 exact wpAny_pure ⟨_,rfl,"set_iterator",_,⟨_,Heap.get?_push_size _ rfl,rfl⟩,gw.lookup,hQ⟩
set_option maxHeartbeats 4000000 in
theorem t9 {ord:List Value}{ok:Nat->Nat->Prop}{Q:List Value->Shared->Prop}(W:Way prog w a es ep t ord ok)(hh:A.handled=none)(ha:s.heap.get? a=some (dM es ep t))(hd:w.params.followText "set-order" = true\/t.plain=true)(hn:es.size<=sizeLine)
   (hQ:∀(h':Heap) (tk:Nat),s.heap.objs.size<h'.objs.size->(∀b o,s.heap.get? b=some o->h'.get? b=some o)->Q ord { s with heap:=h',toks:=tk }):wpAny (model prog w) A (collect (.ref a)) Q E s:=by
 have aU:a<s.heap.objs.size:=Heap.lt_size ha
 have GU:s.heap.objs.size≠a:=λe=>Nat.lt_irrefl _ (e ▸ aU)
 unfold collect
 refine wpAny_bind (wpAny_runValue (codeAny_builtin F.entry_proto_collect ?_))
 rw[Around.under_plainId F.plain_proto_collect _]
 show wpAny _ A.in1 (newList [] >>= λl=>again (.builtin "list.__iadd__" ⟨[l,.ref a],[]⟩)) _ _ s
 refine wpAny_bind (wpAny_newObj_type ?_)
 refine wpAny_pure ⟨plainId_quiet F.plain_list_iadd _,codeAny_builtin F.entry_list_iadd ?_⟩
 rw[Around.under_plainId F.plain_list_iadd _]
 show wpAny _ A.in1 (Builtin.List.listExtendWith (.ref s.heap.objs.size) (.ref a) (.ref s.heap.objs.size)) _ _ _
 unfold Builtin.List.listExtendWith
 have GV:(s.heap.push { cls:=.type "list",data:=.seq ([]:List Value).toArray }).get? a=some (dM es ep t):=Heap.get?_push_of_some _ ha
 refine wpAny_bind (wpAny_typeOf (T:="set") ⟨_,GV,rfl⟩ ?_)
 have h1:Builtin.List.listSameRef (.ref s.heap.objs.size) (.ref a)=false:=by simp[Builtin.List.listSameRef,GU]
 have h2:(Value.type "set" == Value.type "list")=false:=by decide
 have h3:(Value.type "set" == Value.type "tuple")=false:=by decide
 simp only[h1,h2,h3,Bool.or_false,Bool.false_eq_true,if_false]
 refine wpAny_bind (AN GV W.fit hd ?_)
 refine wpAny_bind (wpAny_holding ?_)
 generalize hH:s.heap.push { cls:=.type "list",data:=.seq ([]:List Value).toArray }=H at *
 have GW:H.objs.size=s.heap.objs.size+1:=by rw[<- hH,Heap.size_push]
 have Cc:(H.push (lC 0 0 a es.size ep)).get? a=some (dM es ep t):=Heap.get?_push_of_some _ GV
 unfold Builtin.List.listLengthHint
 refine wpAny_bind (wpAny_specialOf (T:="set") ⟨_,Cc,rfl⟩ AM ?_)
 wp_delta
 refine wpAny_bind (wpAny_isInstance (T:="set") (v:=.ref a) (b:=true) ⟨_,Cc,rfl⟩ sub_set_self ?_)
 show wpAny _ A.in1 (typeOf (Value.ref a) >>= _) _ _ _
 refine wpAny_bind (wpAny_typeOf (T:="set") (v:=.ref a) ⟨_,Cc,rfl⟩ ?_)
 refine wpAny_pure ?_
 show wpAny _ A.in1 (rule "list.extend.makes-room" >>= λ_=>Builtin.List.listTouch (.ref s.heap.objs.size) >>= λ_ =>
   again (.builtin "list.extend.loop" ⟨[.ref s.heap.objs.size,.ref H.objs.size,.ref s.heap.objs.size],[]⟩)) _ _ _
 refine wpAny_bind (wpAny_rule ?_)
 have LX:(H.push (lC 0 0 a es.size ep)).get? s.heap.objs.size=some { cls:=.type "list",data:=.seq ([]:List Value).toArray }:=Heap.get?_push_of_some _ (hH ▸ Heap.get?_push_size _ rfl)
 refine wpAny_bind ?_
 show wpAny _ A.in1 (updateSeq s.heap.objs.size (·.push .none) >>= λ_=>updateSeq s.heap.objs.size (·.pop)) _ _ _
 refine wpAny_bind (wpAny_updateSeq LX rfl ?_)
 have oS:=Heap.get?_update_self (Obj.mapSeq (·.push Value.none)) LX rfl
 refine wpAny_updateSeq oS rfl ?_
 have Qp:=Heap.get?_update_self (Obj.mapSeq (·.pop)) oS rfl
 have GX:∀b o,b≠s.heap.objs.size->(H.push (lC 0 0 a es.size ep)).get? b=some o ->
     (((H.push (lC 0 0 a es.size ep)).update s.heap.objs.size (Obj.mapSeq (·.push Value.none))).update s.heap.objs.size (Obj.mapSeq (·.pop))).get? b=some o :=
   λb o hb e=>(Heap.get?_update_other _ _ (Ne.symm hb)).trans ((Heap.get?_update_other _ _ (Ne.symm hb)).trans e)
 have Qq:a≠H.objs.size:=by rw[GW];exact Nat.ne_of_lt (Nat.lt_succ_of_lt aU)
 have LY:H.objs.size≠s.heap.objs.size:=by rw[GW];exact Nat.succ_ne_self _
 have uI:s.heap.objs.size ∉ [H.objs.size,a]:=by
   simp only[List.mem_cons,List.not_mem_nil,or_false,not_or]
   exact⟨Ne.symm LY,GU⟩
 refine wpAny_pure ⟨plainId_quiet F.plain_extend_loop _,codeAny_extend_loopS (walks W (I:=H.objs.size) (A:=A.in1) (by simp[hh]) Qq).toS hn _ uI _ es.size 0 _ _ _ rfl (Nat.zero_le _)
   ⟨⟨0,W.zero,GX _ _ LY (Heap.get?_push_size _ rfl)⟩,GX _ _ (Ne.symm GU) Cc⟩ Qp (ItemsOf.nil _) λs' fY c' hm uJ GY=>?_⟩
 show wpAny _ A (load s.heap.objs.size >>= _) _ _ s'
 refine wpAny_bind (wpAny_load uJ ?_)
 have NI:fY.toList=ord:=by
   apply List.ext_getElem?
   intro j
   by_cases hj:j<fY.size
   . have:=GY.2 j fY[j] (Array.getElem?_eq_getElem hj)
     rw[this,Array.getElem?_toList,Array.getElem?_eq_getElem hj]
   . have e1:=GY.1
     rw[List.getElem?_eq_none (by simp;omega),List.getElem?_eq_none (by rw[W.len];omega)]
 refine wpAny_pure ?_
 rw[NI]
 obtain⟨h',g',d',oT,xV⟩:=s'
 have eg:g'=s.gens:=hm.gens
 have ed:d'=s.drawn:=hm.drawn
 have eo:xV=s.os:=hm.os
 subst eg;subst ed;subst eo
 refine hQ h' oT (Heap.lt_size uJ) λb o e=>?_
 have LZ:=Heap.lt_size e
 have nb:b≠s.heap.objs.size:=Nat.ne_of_lt LZ
 have Qr:b≠H.objs.size:=by rw[GW];exact Nat.ne_of_lt (Nat.lt_succ_of_lt LZ)
 refine hm.heap b o (λhb=>?_) (GX b o nb (Heap.get?_push_of_some _ (hH ▸ Heap.get?_push_of_some _ e)))
 rcases List.mem_cons.mp hb with h|h
 . exact nb h
 . exact Qr (List.mem_singleton.mp h)
end
noncomputable def tb (P:List Nat)(led:Bool):SetTable:={ mask:=7,place:=P.toArray,dummies:=#[],finger:=0,led:=led,moves:=0,plain:=true }
end SW
namespace SJ
open PySem
noncomputable def iter (m:Nat):Nat->Nat->Nat
 | 0,i=>i
 |n+1,i=>iter m n ((i*5+1) % (m+1))
noncomputable def hits (m:Nat):Bool:=(List.range (m+1)).all λi=>(List.range (m+1)).all λt=>(List.range (m+1)).any λn=>iter m n i == t
theorem KJ:hits 7=true:=by decide +kernel
theorem D4 (hm:m=7\/m=31)(hi:i<=m)(ht:t<=m):∃n,n<=m/\iter m n i=t:=by
 have h:hits m=true:=by rcases hm with rfl|rfl<;>first|exact KJ|exact Qs
 unfold hits at h
 simp only[List.all_eq_true,List.any_eq_true,List.mem_range,beq_iff_eq]at h
 obtain⟨n,hn,e⟩:=h i (by omega) t (by omega)
 exact⟨n,by omega,e⟩
noncomputable def lp (m:Nat):Nat->Nat×Nat->Nat×Nat
 | 0,q=>q
 |n+1,q=>lp m n (SetTable.leap m q.1 q.2)
theorem yc:∀(a b:Nat) (q:Nat×Nat),lp m (a+b) q=lp m b (lp m a q)
 | 0,b,q=>by rw[Nat.zero_add];rfl
 |a+1,b,q=>by rw[Nat.succ_add];exact yc a b _
theorem uK:∀(n:Nat) (q:Nat×Nat),(lp m n q).2=q.2 / 32 ^ n
 | 0,q=>by simp[lp]
 |n+1,q=>by
  rw[lp,uK n]
  show q.2 / 32 / 32 ^ n=_
  rw[Nat.div_div_eq_div_mul,Nat.pow_succ,Nat.mul_comm 32]
theorem uL:∀(n i:Nat),(lp m n (i,0)).1=iter m n i
 | 0,i=>rfl
 |n+1,i=>by
  rw[lp,iter]
  show(lp m n ((i*5+1+0 / 32) % (m+1),0 / 32)).1=_
  rw[Nat.zero_div,Nat.add_zero]
  exact uL n _
theorem Cd:∀(n:Nat) (q:Nat×Nat),q.1<=m->(lp m n q).1<=m
 | 0,q,h=>h
 |n+1,q,h=>Cd n _ (by
  exact Nat.le_of_lt_succ (Nat.mod_lt (q.1*5+1+q.2 / 32) (Nat.succ_pos m)))
theorem D6 (h:Int):SetTable.bits h<2 ^ 64:=by
 unfold SetTable.bits
 have h1:=Int.emod_nonneg h (b:=2 ^ 64) (by decide)
 have h2:=Int.emod_lt_of_pos h (b:=2 ^ 64) (by decide)
 omega
theorem reach (hm:m=7\/m=31)(h:Int)(hi:i<=m)(ht:t<=m):∃n,n<=13+m/\(lp m n (i,SetTable.bits h)).1=t:=by
 have e:(lp m 13 (i,SetTable.bits h)).2=0:=by
  rw[uK]
  have:=D6 h
  exact Nat.div_eq_of_lt (Nat.lt_of_lt_of_le this (by decide))
 obtain⟨n,hn,en⟩:=D4 hm (Cd (m:=m) 13 (i,SetTable.bits h) hi) ht
 refine⟨13+n,by omega,?_⟩
 rw[yc]
 have:lp m 13 (i,SetTable.bits h)=((lp m 13 (i,SetTable.bits h)).1,0):=by rw[<- e]
 rw[this,uL]
 exact en
def mF (xs:Array Nat):Prop:=xs.toList.Pairwise (· < ·)
theorem mG {xs:Array Nat}(h:mF xs){i j:Nat}(hj:j<xs.size)(dI:i<j):xs[i]'(by omega)<xs[j]:=by
 have:=(List.pairwise_iff_getElem.mp h) i j (by simpa using Nat.lt_trans dI hj) (by simpa using hj) dI
 simpa using this
theorem lR {xs:Array Nat}(h:mF xs){j:Nat}:∀(fuel lo hi:Nat),lo<=hi->hi<=xs.size->hi-lo<=fuel->(∀i (hz:i<xs.size),i<lo->xs[i]< j)->(∀i (hz:i<xs.size),hi<=i->j<=xs[i]) ->
  lo<=SetTable.below.go xs j fuel lo hi/\SetTable.below.go xs j fuel lo hi<=hi/\(∀i (hz:i<xs.size),i<SetTable.below.go xs j fuel lo hi->xs[i]< j)/\(∀i (hz:i<xs.size),SetTable.below.go xs j fuel lo hi<=i->j<=xs[i])
 | 0,lo,hi,h1,h2,h3,h4,h5=>by
  have:lo=hi:=by omega
  subst this
  exact⟨Nat.le_refl _,Nat.le_refl _,h4,h5⟩
 |fuel+1,lo,hi,h1,h2,h3,h4,h5=>by
  unfold SetTable.below.go
  by_cases hl:lo<hi
  . rw[if_pos hl]
    dsimp only
    have hm:(lo+hi) / 2<xs.size:=by omega
    have eg:xs.getD ((lo+hi) / 2) j=xs[(lo+hi) / 2]:=by simp[hm]
    rw[eg]
    split
    . rename_i hx
      obtain⟨a,b,c,d⟩:=lR h fuel ((lo+hi) / 2+1) hi (by omega) h2 (by omega) (λi iH aU=>by
       by_cases e:i=(lo+hi) / 2
       . subst e;exact hx
       . exact Nat.lt_trans (mG h hm (by omega)) hx) h5
      exact⟨by omega,b,c,d⟩
    . rename_i hx
      obtain⟨a,b,c,d⟩:=lR h fuel lo ((lo+hi) / 2) (by omega) (by omega) (by omega) h4 (λi iH hle=>by
       by_cases e:i=(lo+hi) / 2
       . subst e;omega
       . have:=mG h iH (show(lo+hi) / 2<i by omega)
         omega)
      exact⟨a,by omega,c,d⟩
  . rw[if_neg hl]
    have:lo=hi:=by omega
    subst this
    exact⟨Nat.le_refl _,Nat.le_refl _,h4,h5⟩
theorem jh {xs:Array Nat}(h:mF xs)(j:Nat):SetTable.below xs j<=xs.size/\(∀i (hi:i<xs.size),i<SetTable.below xs j->xs[i]< j)/\(∀i (iH:i<xs.size),SetTable.below xs j<=i->j<=xs[i]):=by
 obtain⟨_,a,b,c⟩:=lR h (j:=j) xs.size 0 xs.size (Nat.zero_le _) (Nat.le_refl _) (by omega) (λi hi aU=>by omega) (λi hi hle=>by omega)
 exact⟨a,b,c⟩
theorem yd {xs:Array Nat}(h:mF xs)(j:Nat):(xs[SetTable.below xs j]? == some j)=true ↔ j∈xs:=by
 obtain⟨a,b,c⟩:=jh h j
 rw[beq_iff_eq]
 constructor
 . intro e
   exact Array.mem_of_getElem? e
 . intro hm
   obtain⟨i,hi,e⟩:=Array.mem_iff_getElem.mp hm
   have h1:¬i<SetTable.below xs j:=λaU=>by have:=b i hi aU;omega
   have h2:¬SetTable.below xs j<i:=λaU=>by
    have hb:SetTable.below xs j<xs.size:=by omega
    have:=c _ hb (Nat.le_refl _)
    have:=mG h hi aU
    omega
   have h3:SetTable.below xs j=i:=by omega
   rw[h3,Array.getElem?_eq_getElem hi,e]
structure cF (t:SetTable)(n:Nat):Prop where
 dm:t.dummies = #[]
 pl:t.plain=true
 sz:t.place.size=n
 ri:mF t.place
 le:∀j∈t.place,j<=t.mask
 mx:(t.mask=7/\n<=4)\/(t.mask=31/\n<=18)
theorem cF.m (h:cF t n):t.mask=7\/t.mask=31:=by
 rcases h.mx with h|h
 . exact .inl h.1
 . exact .inr h.1
theorem cF.fits (h:cF t n):t.fits n=true:=by
 have hd:t.dummies.size=0:=by rw[h.dm];rfl
 have hs:=h.sz
 have hm:=h.mx
 unfold SetTable.fits SetTable.fill
 simp only[Bool.and_eq_true,beq_iff_eq,decide_eq_true_eq]
 exact⟨hs,by omega⟩
theorem cF.slot (h:cF t n)(j:Nat):(j ∉ t.place->t.slot j = .empty)/\(j∈t.place->∃i,t.slot j = .live i):=by
 have hb:=yd h.ri j
 unfold SetTable.slot
 dsimp only
 constructor
 . intro hn
   have:(t.place[SetTable.below t.place j]? == some j)=false:=by
    cases e:(t.place[SetTable.below t.place j]? == some j)with
    |false=>rfl
    |true=>exact absurd (hb.mp e) hn
   rw[this,h.dm]
   have e2:SetTable.has #[] j=false:=by simp[SetTable.has]
   rw[e2]
   rfl
 . intro hm
   rw[hb.mpr hm]
   exact⟨_,rfl⟩
theorem wa:∀{V W:List Nat},V.Nodup->(∀v∈V,v∈W)->V.length<=W.length
 | [],_,_,_=>Nat.zero_le _
 |v::V,W,hn,h=>by
  rw[List.nodup_cons]at hn
  have:=wa (W:=W.erase v) hn.2 λu hu=>(List.mem_erase_of_ne (by rintro rfl;exact hn.1 hu)).mpr (h u (by simp[hu]))
  have hv:=h v (by simp)
  have hp:=List.length_pos_of_mem hv
  rw[List.length_erase_of_mem hv]at this
  simp only[List.length_cons]
  omega
theorem cF.room (h:cF t n):∃j,j<=t.mask/\j ∉ t.place:=by
 refine Classical.byContradiction λno=>?_
 have all:∀j,j∈List.range (t.mask+1)->j∈t.place.toList:=λj hj=>by
  refine Classical.byContradiction λhn=>no ⟨j,by have:=List.mem_range.mp hj;omega,λhm=>hn (by simpa using hm)⟩
 have:(List.range (t.mask+1)).length<=t.place.toList.length:=wa List.nodup_range all
 have hs:=h.sz
 have hm:=h.mx
 simp at this
 omega
noncomputable def j2 (t:SetTable):Nat->SetTable.Probe->SetTable.Probe
 | 0,p=>p
 |n+1,p=>j2 t n (t.advance p)
theorem uM (t:SetTable):∀(a b:Nat) (p:SetTable.Probe),j2 t (a+b) p=j2 t b (j2 t a p)
 | 0,b,p=>by rw[Nat.zero_add];rfl
 |a+1,b,p=>by rw[Nat.succ_add];exact uM t a b _
noncomputable def rs (m:Nat)(q:Nat×Nat):SetTable.Probe:={ j:=q.1,more:=SetTable.runEnd m q.1-q.1,i:=q.1,perturb:=q.2,dummy:=none }
theorem uN (t:SetTable)(q:Nat×Nat):∀(k j:Nat),j2 t (k+1) { j:=j,more:=k,i:=q.1,perturb:=q.2,dummy:=none }=rs t.mask (SetTable.leap t.mask q.1 q.2)
 | 0,j=>rfl
 |k+1,j=>by
  rw[j2]
  have:t.advance { j:=j,more:=k+1,i:=q.1,perturb:=q.2,dummy:=none }={ j:=j+1,more:=k,i:=q.1,perturb:=q.2,dummy:=none }:=by
   unfold SetTable.advance
   rw[if_pos (Nat.succ_pos k)]
   rfl
  rw[this]
  exact uN t q k (j+1)
theorem fP (m i:Nat):i<=SetTable.runEnd m i/\SetTable.runEnd m i-i<=9/\(i<=m->SetTable.runEnd m i<=m):=by
 unfold SetTable.runEnd
 split<;>omega
theorem Ce (t:SetTable):∀(L:Nat) (q:Nat×Nat),∃n,n<=10*L/\j2 t n (rs t.mask q)=rs t.mask (lp t.mask L q)
 | 0,q=>⟨0,Nat.zero_le _,rfl⟩
 |L+1,q=>by
  obtain⟨n,hn,e⟩:=Ce t L (SetTable.leap t.mask q.1 q.2)
  have h9:=(fP t.mask q.1).2.1
  refine⟨(SetTable.runEnd t.mask q.1-q.1+1)+n,by omega,?_⟩
  rw[uM]
  have:=uN t q (SetTable.runEnd t.mask q.1-q.1) q.1
  have e2:j2 t (SetTable.runEnd t.mask q.1-q.1+1) (rs t.mask q)=rs t.mask (SetTable.leap t.mask q.1 q.2):=this
  rw[e2,e]
  rfl
structure PI (t:SetTable)(p:SetTable.Probe):Prop where
 j:p.j+p.more<=t.mask
 d:p.dummy=none
theorem PI.j2 (h:PI t p):PI t (t.advance p):=by
 unfold SetTable.advance
 have h1:=h.j
 split
 . exact⟨by show p.j+1+(p.more-1)<=t.mask;omega,h.d⟩
 . dsimp only
   have hl:(SetTable.leap t.mask p.i p.perturb).1<=t.mask:=Nat.le_of_lt_succ (Nat.mod_lt (p.i*5+1+p.perturb / 32) (Nat.succ_pos t.mask))
   obtain⟨a,b,c⟩:=fP t.mask (SetTable.leap t.mask p.i p.perturb).1
   refine⟨?_,h.d⟩
   show(SetTable.leap t.mask p.i p.perturb).1+(SetTable.runEnd t.mask (SetTable.leap t.mask p.i p.perturb).1-(SetTable.leap t.mask p.i p.perturb).1)<=t.mask
   have:=c hl
   omega
theorem ye (T:cF t n)(h:Int):∀(k fuel:Nat) (p:SetTable.Probe),k<fuel->PI t p->(j2 t k p).j ∉ t.place->∃j,SetTable.probe.go t (λ_=>h+1) h fuel p=some (.empty j none)/\j ∉ t.place/\j<=t.mask
 |k,0,p,hk,_,_=>by omega
 |k,fuel+1,p,hk,hp,hj=>by
  unfold SetTable.probe.go
  by_cases hm:p.j∈t.place
  . obtain⟨i,e⟩:=(T.slot p.j).2 hm
    rw[e]
    dsimp only
    have:(h+1 == h)=false:=by
     rw[beq_eq_false_iff_ne]
     omega
    rw[this]
    cases k with
    |zero=>exact absurd hm hj
    |succ k=>exact ye T h k fuel _ (by omega) hp.j2 hj
  . rw[(T.slot p.j).1 hm]
    dsimp only
    rw[hp.d]
    exact⟨p.j,rfl,hm,by have:=hp.j;omega⟩
theorem D7 (T:cF t n)(h:Int):∃j,t.freeSlot h=some (j,false)/\j ∉ t.place/\j<=t.mask:=by
 obtain⟨r,hr,hn⟩:=T.room
 have hi:SetTable.bits h % (t.mask+1)<=t.mask:=Nat.le_of_lt_succ (Nat.mod_lt _ (Nat.succ_pos _))
 obtain⟨L,hL,eL⟩:=reach T.m h hi hr
 obtain⟨k,hk,ek⟩:=Ce t L (SetTable.bits h % (t.mask+1),SetTable.bits h)
 obtain⟨a,b,c⟩:=fP t.mask (SetTable.bits h % (t.mask+1))
 obtain⟨j,e,h1,h2⟩:=ye T h k (10*SetTable.turns t.mask) (t.probeStart h) (by unfold SetTable.turns;omega) ⟨by
  show SetTable.bits h % (t.mask+1)+(SetTable.runEnd t.mask (SetTable.bits h % (t.mask+1))-SetTable.bits h % (t.mask+1))<=t.mask
  have:=c hi
  omega,rfl⟩ (by
  have e3:t.probeStart h=rs t.mask (SetTable.bits h % (t.mask+1),SetTable.bits h):=rfl
  rw[e3,ek]
  show(lp t.mask L _).1 ∉ _
  rw[eL]
  exact hn)
 refine⟨j,?_,h1,h2⟩
 unfold SetTable.freeSlot SetTable.probe
 rw[e]
 rfl
theorem qO {α:Type}(xs:Array α)(p:Nat)(x:α):(SetTable.insertAt xs p x).toList=xs.toList.take p++x::xs.toList.drop p:=by
 unfold SetTable.insertAt
 simp
 exact List.take_of_length_le (by simp)
theorem jk {α:Type}(xs:Array α)(p:Nat)(x:α):(SetTable.insertAt xs p x).toList.Perm (x::xs.toList):=by
 rw[qO]
 refine List.perm_middle.trans ?_
 rw[List.take_append_drop]
theorem D8 {xs:Array Nat}(h:mF xs){j:Nat}(hj:j ∉ xs):mF (SetTable.insertAt xs (SetTable.below xs j) j):=by
 obtain⟨a,b,c⟩:=jh h j
 unfold mF
 rw[qO,List.pairwise_append]
 have lo:∀x∈xs.toList.take (SetTable.below xs j),x<j:=λx hx=>by
   obtain⟨i,hi,e⟩:=List.mem_iff_getElem.mp hx
   rw[List.length_take]at hi
   rw[List.getElem_take]at e
   have:=b i (by simp at hi;omega) (by omega)
   rw[<- e]
   simpa using this
 have hi:∀x∈xs.toList.drop (SetTable.below xs j),j<x:=λx hx=>by
   obtain⟨i,hi,e⟩:=List.mem_iff_getElem.mp hx
   rw[List.length_drop]at hi
   rw[List.getElem_drop]at e
   have hl:SetTable.below xs j+i<xs.size:=by simp at hi;omega
   have h1:=c _ hl (by omega)
   have e':xs[SetTable.below xs j+i]=x:=by simpa using e
   have:x≠j:=λz=>hj (by rw[<- z,<- e'];exact Array.getElem_mem hl)
   omega
 refine⟨h.sublist (List.take_sublist _ _),List.pairwise_cons.mpr ⟨hi,h.sublist (List.drop_sublist _ _)⟩,λx hx y hy=>?_⟩
 rcases List.mem_cons.mp hy with rfl|hy
 . exact lo x hx
 . exact Nat.lt_trans (lo x hx) (hi y hy)
structure qP (t:SetTable)(n:Nat):Prop where
 dm:t.dummies = #[]
 pl:t.plain=true
 sz:t.place.size=n
 ri:mF t.place
 le:∀j∈t.place,j<=t.mask
theorem qP.fits (h:qP t n)(hn:n<=t.mask):t.fits n=true:=by
 have hd:t.dummies.size=0:=by rw[h.dm];rfl
 have hs:=h.sz
 unfold SetTable.fits SetTable.fill
 simp only[Bool.and_eq_true,beq_iff_eq,decide_eq_true_eq]
 exact⟨hs,by omega⟩
theorem GZ (T:cF t n){es:Array (Int×Value)}(he:es.size=n)(h:Int)(x:Value):∃aW t',layNew t es h x=(aW,t',false,false)/\qP t' (n+1)/\t'.mask=t.mask/\t'.led=t.led/\aW.toList.Perm ((h,x)::es.toList)/\aW.size=n+1:=by
 obtain⟨j,e,hj,hm⟩:=D7 T h
 have hd:SetTable.has #[] j=false:=by simp[SetTable.has]
 have hz:(SetTable.insertAt es (SetTable.below t.place j) (h,x)).size=n+1:=by
  have:=(jk es (SetTable.below t.place j) (h,x)).length_eq
  simp at this
  omega
 have P:qP { t with place:=SetTable.insertAt t.place (SetTable.below t.place j) j,dummies:=t.dummies } (n+1):=by
  refine⟨T.dm,T.pl,?_,D8 T.ri hj,λk hk=>?_⟩
  . have:=(jk t.place (SetTable.below t.place j) j).length_eq
    have:=T.sz
    simp at *
    omega
  . have:=(jk t.place (SetTable.below t.place j) j).mem_iff.mp (by simpa using hk)
    rcases List.mem_cons.mp this with rfl|h'
    . exact hm
    . exact T.le k (by simpa using h')
 have ep:t.put j=({ t with place:=SetTable.insertAt t.place (SetTable.below t.place j) j,dummies:=t.dummies },SetTable.below t.place j):=by
  unfold SetTable.put
  dsimp only
  rw[T.dm,hd]
  rfl
 have hf:=P.fits (by
  show n+1<=t.mask
  rcases T.mx with⟨a,b⟩|⟨a,b⟩<;>omega)
 refine⟨SetTable.insertAt es (SetTable.below t.place j) (h,x),_,?_,P,rfl,rfl,jk _ _ _,hz⟩
 unfold layNew
 rw[e]
 dsimp only
 rw[ep]
 dsimp only
 rw[hz,hf]
 unfold SetTable.orStandIn
 rw[hf]
 rfl
theorem qQ {owner:Array (Option Nat)}(ho:owner.size=32):∀(L fuel:Nat) (q:Nat×Nat),L<fuel->q.1<=31->owner[(lp 31 L q).1]? = some none->∃j,SetTable.layClean.free 31 owner fuel q.1 q.2=some j/\owner[j]? = some none
 |L,0,q,h,_,_=>by omega
 |L,fuel+1,q,h,hq,hr=>by
  unfold SetTable.layClean.free
  cases ef:(List.range (SetTable.runEnd 31 q.1+1-q.1)).find? λk=>(owner.getD (q.1+k) (some 0)).isNone with
  |some k =>
   dsimp only
   refine⟨q.1+k,rfl,?_⟩
   have h1:=List.find?_some ef
   have h2:=List.mem_range.mp (List.mem_of_find?_eq_some ef)
   have h3:=(fP 31 q.1).2.2 hq
   have hl:q.1+k<owner.size:=by omega
   have eg:owner.getD (q.1+k) (some 0)=owner[q.1+k]:=by simp[hl]
   rw[eg]at h1
   rw[Array.getElem?_eq_getElem hl]
   cases hv:owner[q.1+k]with
   |none=>rfl
   |some v=>rw[hv]at h1;cases h1
  |none =>
   dsimp only
   cases L with
   |zero =>
    exfalso
    have h0:=List.find?_eq_none.mp ef 0 (List.mem_range.mpr (by have:=(fP 31 q.1).1;omega))
    have hr:owner[q.1]? = some none:=hr
    obtain⟨hl,e⟩:=Array.getElem?_eq_some_iff.mp hr
    have eg:owner.getD (q.1+0) (some 0)=none:=by simp[hl,e]
    rw[eg]at h0
    exact h0 rfl
   |succ L =>
    exact qQ ho L fuel (SetTable.leap 31 q.1 q.2) (by omega) (Nat.le_of_lt_succ (Nat.mod_lt (q.1*5+1+q.2 / 32) (Nat.succ_pos 31))) hr
structure Own (owner:Array (Option Nat))(sl:List Nat):Prop where
 sz:owner.size=32
 nd:sl.Nodup
 lt:∀j∈sl,j<32
 at_:∀j v:Nat,owner[j]? = some (some v)↔ sl[v]? = some j
theorem Own.nil:Own (Array.replicate 32 none) []:=⟨by simp,by simp,by simp,λj v=>by
 simp only[List.getElem?_nil,reduceCtorEq,iff_false]
 intro h
 obtain⟨hl,e⟩:=Array.getElem?_eq_some_iff.mp h
 simp at e⟩
theorem Own.room (O:Own owner sl)(hn:sl.length<32):∃r,r<=31/\owner[r]? = some none:=by
 refine Classical.byContradiction λno=>?_
 have:(List.range 32).length<=sl.length:=wa List.nodup_range λr hr=>by
  have hr:=List.mem_range.mp hr
  cases e:owner[r]'(by rw[O.sz];exact hr)with
  |none=>exact absurd ⟨r,by omega,by rw[Array.getElem?_eq_getElem (by rw[O.sz];exact hr),e]⟩ no
  |some v=>exact List.mem_of_getElem? ((O.at_ r v).mp (by rw[Array.getElem?_eq_getElem (by rw[O.sz];exact hr),e]))
 simp at this
 omega
theorem Own.add (O:Own owner sl)(hj:owner[j]? = some none):Own (owner.setIfInBounds j (some sl.length)) (sl ++ [j]):=by
 have hl:j<owner.size:=(Array.getElem?_eq_some_iff.mp hj).1
 have hn:j ∉ sl:=λhm=>by
   obtain⟨v,hv⟩:=List.mem_iff_getElem?.mp hm
   rw[(O.at_ j v).mpr hv]at hj
   cases hj
 refine⟨by simp[O.sz],?_,λk hk=>?_,λk v=>?_⟩
 . rw[List.nodup_append]
   exact⟨O.nd,by simp,λa ha b hb=>by simp at hb;subst hb;rintro rfl;exact hn ha⟩
 . rcases List.mem_append.mp hk with hk|hk
   . exact O.lt k hk
   . simp at hk;subst hk;rw[<- O.sz];exact hl
 . by_cases e:j=k
   . subst e
     rw[Array.getElem?_setIfInBounds_self_of_lt hl]
     constructor
     . intro h
       cases h
       simp
     . intro h
       by_cases hv:v<sl.length
       . rw[List.getElem?_append_left hv]at h
         exact absurd (List.mem_of_getElem? h) hn
       . rw[List.getElem?_append_right (by omega)]at h
         have:=(List.getElem?_eq_some_iff.mp h).1
         simp at this
         have:v=sl.length:=by omega
         rw[this]
   . rw[Array.getElem?_setIfInBounds_ne e,O.at_ k v]
     constructor
     . intro h
       rw[List.getElem?_append_left (List.getElem?_eq_some_iff.mp h).1];exact h
     . intro h
       by_cases hv:v<sl.length
       . rwa[List.getElem?_append_left hv]at h
       . rw[List.getElem?_append_right (by omega)]at h
         have h2:=List.mem_of_getElem? h
         simp at h2
         exact absurd h2.symm e
noncomputable def pS (acc:Option (Array (Option Nat)×Nat))(h:Int):Option (Array (Option Nat)×Nat):=do
 let(owner,k)<- acc
 let j <- SetTable.layClean.free 31 owner (SetTable.turns 31) (SetTable.bits h % (31+1)) (SetTable.bits h)
 pure (owner.setIfInBounds j (some k),k+1)
theorem uO:∀(hs:List Int) (owner:Array (Option Nat)) (sl:List Nat),Own owner sl->sl.length+hs.length<=31->∃yf gE,hs.foldl pS (some (owner,sl.length))=some (yf,gE.length)/\Own yf gE/\gE.length=sl.length+hs.length
 | [],owner,sl,O,_=>⟨owner,sl,rfl,O,rfl⟩
 |h::hs,owner,sl,O,hl=>by
  simp only[List.length_cons]at hl
  obtain⟨r,hr,er⟩:=O.room (by omega)
  have hi:SetTable.bits h % (31+1)<=31:=Nat.le_of_lt_succ (Nat.mod_lt _ (Nat.succ_pos _))
  obtain⟨L,hL,eL⟩:=reach (.inr rfl) h hi hr
  obtain⟨j,ej,hj⟩:=qQ O.sz L (SetTable.turns 31) (SetTable.bits h % (31+1),SetTable.bits h) (by show L<31+15;omega) hi (by rw[eL];exact er)
  obtain⟨o',s',e,O',qR⟩:=uO hs _ _ (O.add hj) (by simp;omega)
  refine⟨o',s',?_,O',by simp at qR ⊢;omega⟩
  rw[List.foldl_cons]
  have:pS (some (owner,sl.length)) h=some (owner.setIfInBounds j (some sl.length),(sl ++ [j]).length):=by
   show(SetTable.layClean.free 31 owner (SetTable.turns 31) (SetTable.bits h % (31+1)) (SetTable.bits h)).bind _=_
   have Qt:SetTable.layClean.free 31 owner (SetTable.turns 31) (SetTable.bits h % (31+1)) (SetTable.bits h)=some j:=ej
   rw[Qt]
   simp
  rw[this]
  exact e
theorem AO (hs:Array Int)(hl:hs.size<=31):∃owner sl,SetTable.layClean 31 hs=some owner/\Own owner sl/\sl.length=hs.size:=by
 obtain⟨o,s,e,O,h⟩:=uO hs.toList _ [] Own.nil (by simpa using hl)
 refine⟨o,s,?_,O,by simpa using h⟩
 have e2:hs.foldl (init:=some (Array.replicate (31+1) none,0)) pS=some (o,s.length):=by
  rw[<- Array.foldl_toList]
  exact e
 unfold SetTable.layClean
 show Option.map _ (hs.foldl (init:=some (Array.replicate (31+1) none,0)) pS)=_
 rw[e2]
 rfl
noncomputable def cG (owner:Array (Option Nat)):List (Nat×Nat):=(List.range 32).filterMap λj=>(owner.getD j none).map (j,·)
theorem gI (O:Own owner sl):(j,v)∈cG owner ↔ sl[v]? = some j:=by
 unfold cG
 rw[List.mem_filterMap,<- O.at_]
 constructor
 . rintro⟨k,hk,e⟩
   obtain⟨u,hu,e2⟩:=Option.map_eq_some_iff.mp e
   cases e2
   have hk:=List.mem_range.mp hk
   have hl:j<owner.size:=by rw[O.sz];exact hk
   rw[Array.getElem?_eq_getElem hl]
   simpa[hl]using hu
 . intro h
   obtain⟨hl,e⟩:=Array.getElem?_eq_some_iff.mp h
   refine⟨j,List.mem_range.mpr (by rw[<- O.sz];exact hl),?_⟩
   simp[hl,e]
theorem uP (owner:Array (Option Nat)):(cG owner).Pairwise λa b=>a.1<b.1:=by
 unfold cG
 rw[List.pairwise_filterMap]
 refine(List.pairwise_lt_range (n:=32)).imp fun {a b} h x hx y hy=>?_
 obtain⟨_,_,rfl⟩:=Option.map_eq_some_iff.mp hx
 obtain⟨_,_,rfl⟩:=Option.map_eq_some_iff.mp hy
 exact h
theorem uQ:∀{V W:List Nat},V.Nodup->W.Nodup->(∀v,v∈V ↔ v∈W)->V.Perm W
 | [],W,_,_,h=>by
  cases W with
  |nil=>exact .refl _
  |cons w W=>exact absurd ((h w).mpr (by simp)) (by simp)
 |v::V,W,hv,hw,h=>by
  rw[List.nodup_cons]at hv
  have hm:=(h v).mp (by simp)
  have:=uQ (W:=W.erase v) hv.2 (hw.erase v) λu=>by
   rw[hw.mem_erase_iff,<- h u,List.mem_cons]
   constructor
   . intro hu
     exact⟨by rintro rfl;exact hv.1 hu,.inr hu⟩
   . rintro⟨h1,h2|h2⟩
     . exact absurd h2 h1
     . exact h2
  exact(this.cons v).trans (List.perm_cons_erase hm).symm
theorem wb (O:Own owner sl):((cG owner).map (·.2)).Perm (List.range sl.length):=by
 refine uQ ?_ List.nodup_range λv=>?_
 . rw[List.Nodup,List.pairwise_map]
   refine(List.Pairwise.and_mem.mp (uP owner)).imp fun {a b} h e=>?_
   obtain⟨h1,h2,h3⟩:=h
   have e1:=(gI O (j:=a.1) (v:=a.2)).mp h1
   have e2:=(gI O (j:=b.1) (v:=b.2)).mp h2
   rw[e,e2]at e1
   have:=Option.some.inj e1
   omega
 . rw[List.mem_range,List.mem_map]
   constructor
   . rintro⟨a,ha,rfl⟩
     exact(List.getElem?_eq_some_iff.mp ((gI O (j:=a.1) (v:=a.2)).mp ha)).1
   . intro hv
     exact⟨(sl[v],v),(gI O).mpr (List.getElem?_eq_getElem hv),rfl⟩
end SJ
namespace SW
open PySem PySem.Spec PyProof.Rows
noncomputable def oU (ks:List Nat)(k:Nat):List Nat:=if k∈ks then ks else ks ++ [k]
section
variable {prog:Program}{w:World}{A:Around}{E:Value->Shared->Prop}{s:Shared}
noncomputable def emp (led:Bool):Obj:=dM #[] 0 (tb [] led)
theorem D9 (a:Value){Q₁:Value->Shared->Prop}(h:Q₁ (.ref s.heap.objs.size) { s with heap:=s.heap.push (emp (!w.params.followText "set-order")) }):
  codeAny (model prog w) A (.call (.builtin "set.__new__") ⟨[.type "set",a],[]⟩) (wants Q₁ E) s:=by
 refine codeAny_of_tree ?_
 show wpAny _ A.in1 (do checkBuiltinCall "set.__new__" ⟨[.type "set",a],[]⟩;again (.builtin "set.__new__" ⟨[.type "set",a],[]⟩)) _ _ s
 refine wpAny_bind (wpAny_of_eq (F.newCall_set_1 a) (wpAny_pure ⟨plainId_quiet F.plain_set_new _,codeAny_builtin F.entry_set_new ?_⟩))
 rw[Around.under_plainId F.plain_set_new _]
 unfold Builtin.«set.__new__» Builtin.Frozenset.newClass
 have wc:=sub_set_self
 obtain⟨hp,g,d,tk,os⟩:=s
 dsimp only
 wp_walk
 refine wpAny_askSetting (wpAny_pure ?_)
 dsimp only
 simp only[newObj]
 refine wpAny_bind (wpAny_alloc (wpAny_pure ?_))
 exact wpAny_pure h
end
end SW
namespace SJ
open PySem PySem.Spec PyProof.Rows
theorem AQ {α:Type}(es:List α):(List.range es.length).filterMap (λi=>es[i]?)=es:=by
 have:(List.range es.length).filterMap (λi=>es[i]?)=(List.range es.length).filterMap (λi=>(some i).bind λi=>es[i]?):=rfl
 refine List.ext_getElem? λi=>?_
 have e:∀n,n<=es.length->(List.range n).filterMap (λi=>es[i]?)=es.take n:=by
  intro n
  induction n with
  |zero=>intro _;simp
  |succ n ih =>
   intro hn
   rw[List.range_succ,List.filterMap_append,ih (by omega),List.take_succ]
   congr 1
 rw[e _ (Nat.le_refl _),List.take_length]
theorem AR (P:qP t 5)(hm:t.mask=7){es:Array (Int×Value)}(he:es.size=5):∃aW t',relayAll t es (SetTable.grown es.size)=(aW,t',false)/\cF t' 5/\t'.led=t.led/\aW.toList.Perm es.toList/\aW.size=5:=by
 obtain⟨owner,sl,e,O,hs⟩:=AO (es.map (·.1)) (by simp[he])
 have Qu:sl.length=5:=by rw[hs];simp[he]
 have ew:SetTable.sizeAbove (SetTable.grown es.size)-1=31:=by rw[he];decide
 have op:=wb O
 rw[Qu]at op
 have ll:(cG owner).length=5:=by have:=op.length_eq;simpa using this
 have we:(((cG owner).map (·.2)).filterMap (λi=>es[i]?)).Perm es.toList:=by
   refine(op.filterMap _).trans ?_
   have:=AQ es.toList
   have hl:es.toList.length=5:=by simpa using he
   rw[hl]at this
   simp only[Array.getElem?_toList]at this
   rw[this]
 have T:cF { mask:=31,place:=((cG owner).map (·.1)).toArray,dummies:=#[],finger:=t.finger,led:=t.led,moves:=t.movedTo 31,plain:=t.plain } 5:=by
   refine⟨rfl,P.pl,by simp[ll],?_,λj hj=>?_,.inr ⟨rfl,by omega⟩⟩
   . show(((cG owner).map (·.1)).toArray.toList).Pairwise (· < ·)
     rw[List.toList_toArray,List.pairwise_map]
     exact uP owner
   . show j<=31
     have hj:j∈(cG owner).map (·.1):=by simpa using hj
     obtain⟨a,ha,rfl⟩:=List.mem_map.mp hj
     have:=O.lt a.1 (List.mem_of_getElem? ((gI O (j:=a.1) (v:=a.2)).mp ha))
     omega
 refine⟨(((cG owner).map (·.2)).toArray).filterMap (es[·]?),_,?_,T,rfl,?_,?_⟩
 . unfold relayAll SetTable.relaid
   rw[ew]
   have el:SetTable.laid 31 t.finger (t.movedTo 31) t.led t.plain (es.map (·.1))=some ({ mask:=31,place:=((cG owner).map (·.1)).toArray,dummies:=#[],finger:=t.finger,led:=t.led,moves:=t.movedTo 31,plain:=t.plain },((cG owner).map (·.2)).toArray):=by
     unfold SetTable.laid
     rw[e]
     rfl
   rw[el]
   dsimp only
   have hc:coversAll ((cG owner).map (·.2)).toArray es.size=true:=by
     unfold coversAll
     rw[List.toList_toArray,he,List.isPerm_iff]
     exact op
   have hz:((((cG owner).map (·.2)).toArray).filterMap (es[·]?)).size=5:=by
     have:=we.length_eq
     have h5:es.toList.length=5:=by simpa using he
     rw[h5]at this
     rw[<- this,<- Array.length_toList]
     simp
   rw[hc,hz,T.fits]
   rfl
 . have:((((cG owner).map (·.2)).toArray).filterMap (es[·]?)).toList=((cG owner).map (·.2)).filterMap (λi=>es[i]?):=by simp
   rw[this];exact we
 . have:=we.length_eq
   have h5:es.toList.length=5:=by simpa using he
   rw[h5]at this
   rw[<- this,<- Array.length_toList]
   simp
end SJ
namespace SJ
open PySem PySem.Spec PyProof.Rows SW
noncomputable def gJ (p:Int×Nat):Int×Value:=(hashInt p.1,.int p.1 p.2)
noncomputable def eV (h:Heap)(a:Addr)(led:Bool)(ks:List Int):Prop :=
 ∃(es:Array (Int×Value)) (ep:Nat) (t:SetTable) (l:List (Int×Nat)),h.get? a=some (dM es ep t)/\cF t es.size/\t.led=led/\es.toList.Perm (l.map gJ)/\l.map (·.1)=ks
noncomputable def oU (ks:List Int)(k:Int):List Int:=if k∈ks then ks else ks ++ [k]
section
variable {prog:Program}{w:World}{A:Around}{E:Value->Shared->Prop}{s:Shared}{a:Addr}{led:Bool}{ks:List Int}
theorem elems {es:Array (Int×Value)}{l:List (Int×Nat)}(hp:es.toList.Perm (l.map gJ)):ElemsOf (intKind prog w) es.toList:=by
 intro e he
 have:=hp.mem_iff.mp he
 rw[List.mem_map]at this
 obtain⟨p,hm,rfl⟩:=this
 exact⟨⟨p.1,by simp[gJ,intKind,Value.isInt],rfl⟩,rfl⟩
set_option maxHeartbeats 2000000 in
theorem D_ {k:Int}{tok:Nat}{Q:Bool->Shared->Prop}(hS:eV s.heap a led ks)(hl:ks.length<=17\/k∈ks)
  (hQ:∀b h',Heap.SameBut a s.heap h'->eV h' a led (oU ks k)->Q b { s with heap:=h' }):wpAny (model prog w) A (setAddHashed a (.int k tok) (hashInt k)) Q E s:=by
 obtain⟨es,ep,t,l,ha,T,lS,hp,qS⟩:=id hS
 have L0:=elems (prog:=prog) (w:=w) hp
 have hf:t.fits es.size=true:=T.fits
 have G4:es.size<=18:=by rcases T.mx with h|h<;>omega
 have hb:es.size<scanBound:=by unfold scanBound;omega
 have NJ:(intKind prog w).is k (.int k tok)=true:=by simp[intKind,Value.isInt]
 unfold setAddHashed setAddHashedIn
 refine wpAny_holding (wpAny_bind (wpAny_setState_of ha rfl hf ?_))
 dsimp only
 rw[byScan_of (knd:=intKind prog w) (x:=.int k tok) rfl hb L0]
 simp only[↓reduceIte]
 unfold setAddByScan
 refine wpAny_bind ?_
 refine wpAny_bind (wpAny_rule ?_)
 refine wpAny_bind (wpAny_setScan_of (knd:=intKind prog w) (k:=k) NJ ha rfl hf L0 ?_)
 cases hr:List.findIdx? (λe=>(intKind prog w).is k e.2) es.toList with
 |some j =>
  dsimp only
  obtain⟨hj,Cf,_⟩:=List.findIdx?_eq_some_iff_getElem.mp hr
  have de:k∈ks:=by
    have:=hp.mem_iff.mp (List.getElem_mem hj)
    rw[List.mem_map]at this
    obtain⟨p,hm,e⟩:=this
    rw[<- e]at Cf
    have Qv:k=p.1:=by
      simp[gJ,intKind,Value.isInt]at Cf
      first|exact Cf|exact Cf.symm
    rw[Qv,<- qS]
    exact List.mem_map_of_mem hm
  refine wpAny_pure (wpAny_pure ?_)
  have hd:oU ks k=ks:=by unfold oU;rw[if_pos de]
  have e:s={ s with heap:=s.heap }:=by cases s;rfl
  rw[e]
  exact hQ _ s.heap (Heap.SameBut.refl a s.heap) (by rw[hd];exact hS)
 |none =>
  dsimp only
  have G_:¬k∈ks:=by
    intro de
    rw[<- qS,List.mem_map]at de
    obtain⟨p,hm,e⟩:=de
    have j3:=hp.mem_iff.mpr (List.mem_map_of_mem (f:=gJ) hm)
    have:=List.findIdx?_eq_none_iff.mp hr _ j3
    subst e
    simp[gJ,intKind,Value.isInt]at this
  have Qw:es.size<=17:=by
    have hlen:=hp.length_eq
    rcases hl with h|h
    . have:l.length=ks.length:=by rw[<- qS];simp
      simp at hlen
      omega
    . exact absurd h G_
  obtain⟨aW,t',e1,P,hW,qR,uR,uS⟩:=GZ T (es:=es) rfl (hashInt k) (.int k tok)
  rw[e1]
  dsimp only
  refine wpAny_bind (wpAny_pure ?_)
  rw[P.pl]
  simp only[if_true]
  refine wpAny_bind ?_
  rw[hashByValue_scannable 8 (x:=.int k tok) rfl]
  refine wpAny_pure ?_
  refine wpAny_bind (wpAny_storeSet_of ha rfl ?_ (fits_of_scanBound (by unfold scanBound;omega)))
  have hg:(s.heap.update a (Obj.putSet aW t')).get? a=some (dM aW (ep+1) t'):=by
    have:=Heap.get?_update_self (Obj.putSet aW t') ha (by rw[putSet_of aW t' (o:=dM es ep t) rfl];rfl)
    rw[putSet_of aW t' (o:=dM es ep t) rfl]at this
    exact this
  have yg:plainKind (.int k tok)=true:=rfl
  have Ha:aW.toList.Perm ((l ++ [(k,tok)]).map gJ):=by
    rw[List.map_append]
    refine uR.trans ((hp.cons _).trans ?_)
    exact(List.perm_append_singleton _ _).symm
  have Hb:(l ++ [(k,tok)]).map (·.1)=oU ks k:=by
    unfold oU;rw[if_neg G_,<- qS];simp
  have mH:t'.fill=es.size+1:=by
    unfold SetTable.fill
    rw[P.sz,P.dm]
    rfl
  by_cases h5:t.mask=7/\es.size=4
  . have Hc:t'.tooFull=true:=decide_eq_true (by rw[mH,hW,h5.1,h5.2];decide)
    simp only[yg,if_true,Bool.not_false,Bool.true_and,Hc]
    obtain⟨qT,t2,e2,T2,He,Qx,yh⟩:=AR (t:=t') (by rw[h5.2]at P;exact P) (by rw[hW,h5.1]) (es:=aW) (by rw[uS,h5.2])
    rw[e2]
    dsimp only
    refine wpAny_bind (wpAny_pure ?_)
    refine wpAny_bind (wpAny_storeSet_of (s:={ s with heap:=s.heap.update a (Obj.putSet aW t') }) hg rfl ?_ (fits_of_scanBound (by unfold scanBound;omega)))
    have yi:((s.heap.update a (Obj.putSet aW t')).update a (Obj.putSet qT t2)).get? a=some (dM qT (ep+1+1) t2):=by
      have:=Heap.get?_update_self (Obj.putSet qT t2) hg (by rw[putSet_of qT t2 (o:=dM aW (ep+1) t') rfl];rfl)
      rw[putSet_of qT t2 (o:=dM aW (ep+1) t') rfl]at this
      exact this
    have sb:Heap.SameBut a s.heap ((s.heap.update a (Obj.putSet aW t')).update a (Obj.putSet qT t2)):=(Heap.SameBut.update s.heap a _).trans (Heap.SameBut.update _ a _)
    refine wpAny_pure (wpAny_pure (hQ true _ sb ?_))
    exact⟨qT,ep+1+1,t2,l ++ [(k,tok)],yi,by rw[yh];exact T2,by rw[He,qR,lS],Qx.trans Ha,Hb⟩
  . have Hc:t'.tooFull=false:=decide_eq_false (by
      rw[mH,hW]
      rcases T.mx with⟨h1,h2⟩|⟨h1,h2⟩<;>omega)
    simp only[yg,if_true,Bool.not_false,Bool.true_and,Hc,Bool.false_eq_true,if_false]
    refine wpAny_pure (wpAny_pure (hQ true _ (Heap.SameBut.update s.heap a _) ?_))
    refine⟨aW,ep+1,t',l ++ [(k,tok)],hg,⟨P.dm,P.pl,by rw[P.sz,uS],P.ri,P.le,?_⟩,by rw[qR,lS],Ha,Hb⟩
    rw[hW,uS]
    rcases T.mx with⟨h1,h2⟩|⟨h1,h2⟩
    . exact .inl ⟨h1,by omega⟩
    . exact .inr ⟨h1,by omega⟩
end
end SJ
namespace SW
open PySem PySem.Spec PyProof.Rows
noncomputable def zs (ks:List Nat):List Int:=ks.map λ(k:Nat)=>(k:Int)
theorem oV {vs us:List Value}(hp:vs.Perm us):∀{ns:List Int},IntsAre us ns->∃ms,IntsAre vs ms/\ms.Perm ns:=by
 induction hp with
 |nil=>intro ns h;exact⟨ns,h,List.Perm.refl _⟩
 |cons x _ ih =>
  intro ns h
  cases h with
  |cons n t hr =>
   obtain⟨ms,h1,h2⟩:=ih hr
   exact⟨n::ms,.cons _ _ h1,h2.cons n⟩
 |swap x y l =>
  intro ns h
  cases h with
  |cons n t hr =>
   cases hr with
   |cons m u jK=>exact⟨m::n::_,.cons _ _ (.cons _ _ jK),List.Perm.swap _ _ _⟩
 |trans _ _ Qy Hf =>
  intro ns h
  obtain⟨ms,h1,h2⟩:=Hf h
  obtain⟨Qz,h3,h4⟩:=Qy h1
  exact⟨Qz,h3,h4.trans h2⟩
end SW
namespace L3
open PySem PySem.Spec PyProof.Rows L2
inductive D where
 |ao|bl (b:Bool)|int (i:Int)|str (x:Str)|tup (xs:List D)|lst (xs:List D)|bF|ref (n:Nat)|aI (n:Nat)|fn (x:Str)
structure KW where
 fr:PySem.W.Frag
 w:World
 mg:Str->Option Value
instance:Coe KW PySem.W.Frag:=⟨KW.fr⟩
noncomputable abbrev _root_.L2.Cx.kw (X:L2.Cx):KW:=⟨X.K,X.w,X.mg⟩
abbrev G:=List (List D)
abbrev Sg:=List (Option D)
structure Ix where
 ix:List Addr
 hd:List Addr
 kd:Nat->Nat
noncomputable def kb:Nat->Bool
 | 0=>false
 |_+1=>true
def cj (ι:Ix)(n:Nat)(a:Addr)(b:Bool):Prop:=ι.ix[n]? = some a/\kb (ι.kd n)=b
noncomputable def Ix.more (ι:Ix)(p:Addr)(b:Nat):Ix:=⟨ι.ix ++ [p],ι.hd,λi=>if i=ι.ix.length then b else ι.kd i⟩
mutual
noncomputable def aP:Nat->D->Bool
 |_,.ao=>true
 |_,.int _=>true
 |_,.str _=>true
 |n+1,.tup xs=>eE n xs
 |_,_=>false
noncomputable def eE:Nat->List D->Bool
 |_,[]=>true
 |n,d::ds=>aP n d&&eE n ds
end
mutual
noncomputable def hD (w:World):D->Int
 |.int i=>hashInt i
 |.str x=>hashStr w x
 |.ao=>reduceHash 0xFCA86420
 |.tup xs=>reduceHash (Builtin.Tuple.tupleHashOf (uT w xs))
 |_=>0
noncomputable def uT (w:World):List D->List Int
 | []=>[]
 |d::ds=>hD w d::uT w ds
end
noncomputable def dO (a:Addr)(es:List DictEntry)(c:Nat):HO:=.ext λh=>h.get? a=some { cls:=.type "dict",data:=.dict es.toArray (es.length-c) }
noncomputable def mI:List DictEntry->List Value
 | []=>[]
 |e::es=>e.key::e.val::mI es
noncomputable def aJ:List D->List D
 |k::_::r=>k::aJ r
 |_=>[]
inductive fQ (w:World):List D->List DictEntry->Prop
 |nil:fQ w [] []
 |cons {k v:D} {r:List D} {e:DictEntry} {es:List DictEntry}:aP 6 k=true->e.hash=hD w k->fQ w r es->fQ w (k::v::r) (e::es)
inductive OV (K:KW)(a:Addr)(xs:List D):Nat->HO->List V->Prop
 |l (vs:List V):OV K a xs 0 (.lst vs) vs
 |d (c:Nat) (es:List DictEntry) (vs:List V):c<=es.length->Vals vs (mI es)->fQ K.w xs es->(aJ xs).Nodup->(a == sysModules)=false->es.length<=sizeLine->OV K a xs (c+1) (dO a es c) vs
noncomputable def hZ (K:KW)(H:Hp)(ι:Ix)(a:Addr)(xs:List V):Prop :=
 (Rd H a (.lst xs)/\a ∉ ι.ix/\a ∉ ι.hd) \/
  ∃(o:Obj) (ah:Array Value) (n:Nat),K.fr.lookup a=some o/\o.cls = .type "list" /\ o.dict=none/\o.data = .seq ah n/\ah.size<=sizeLine/\Vals xs ah.toList
theorem hZ.sq {K H ι a xs}(h:hZ K H ι a xs):b7 K H a xs:=by
 rcases h with⟨h,_⟩|h
 . exact .inl h
 . exact .inr h
noncomputable def iI (K:KW)(H:Hp)(ι:Ix)(a:Addr)(xs:List V):Prop :=
 (Rd H a (.tup xs)/\a ∉ ι.ix) \/
  ∃(o:Obj) (ah:Array Value) (n:Nat),K.fr.lookup a=some o/\o.cls = .type "tuple" /\ o.dict=none/\o.data = .seq ah n/\ah.size<=sizeLine/\Vals xs ah.toList
theorem iI.sq {K H ι a xs}(h:iI K H ι a xs):da K H a xs:=by
 rcases h with⟨h,_⟩|h
 . exact .inl h
 . exact .inr h
mutual
noncomputable def Rel (K:KW)(H:Hp)(ι:Ix):D->V->Prop
 |.ao,v=>v = .ao
 |.bl b,v=>v = .bl b
 |.int i,v=>v = .int i
 |.str x,v=>v = .str x
 |.tup xs,v=>∃a vs,v = .ref a/\iI K H ι a vs/\ae K H ι xs vs
 |.lst xs,v=>∃a vs,v = .ref a/\hZ K H ι a vs/\ae K H ι xs vs
 |.bF,v=>∃a,v = .ref a/\H a=some (.dK [])/\a ∉ ι.ix
 |.ref n,v=>∃a,v = .ref a/\cj ι n a false
 |.aI n,v=>∃a,v = .ref a/\cj ι n a true
 |.fn x,v=>∃a,v = .ref a/\K.mg x=some (.ref a)
noncomputable def ae (K:KW)(H:Hp)(ι:Ix):List D->List V->Prop
 | [],vs=>vs = []
 |x::xs,vs=>∃v vr,vs=v::vr/\Rel K H ι x v/\ae K H ι xs vr
end
structure Ext (H:Hp)(ι:Ix)(H':Hp)(ι':Ix):Prop where
 same:∀a o,H a=some o->a ∉ ι.ix->H' a=some o
 there:∀a,H a≠none->H' a≠none
 more:∃m,ι'.ix=ι.ix++m /\ ∀a∈m,H a=none
 bI:ι'.hd=ι.hd
 j4:∀i,i < ι.ix.length->kb (ι'.kd i)=kb (ι.kd i)
structure ak (K:KW)(H:Hp)(ι:Ix)(g:G):Prop where
 nd:ι.ix.Nodup
 len:ι.ix.length=g.length
 bI:∀b∈ι.hd,b ∉ ι.ix/\H b≠none
 at_:∀(i:Nat) xs,g[i]? = some xs->∃a o vs,ι.ix[i]? = some a/\H a=some o/\OV K a xs (ι.kd i) o vs/\ae K H ι xs vs
noncomputable def bf (K:KW)(H:Hp)(ι:Ix)(σd:Sg)(σ:L2.St):Prop :=
 σd.length=σ.length /\ ∀(i:Nat) d,σd[i]? = some (some d)->∃v,σ[i]? = some (some v)/\Rel K H ι d v
theorem Ext.refl {H ι}:Ext H ι H ι:=⟨λ_ _ h _=>h,λ_ h=>h,⟨[],by simp,λ_ h=>by simp at h⟩,rfl,λ_ _=>rfl⟩
theorem Ext.old {H ι H1 ι1}(a:Ext H ι H1 ι1){c:Addr}{o:HO}(h:H c=some o)(n:c ∉ ι.ix):c ∉ ι1.ix:=λz=>by
 obtain⟨m1,e1,f1⟩:=a.more
 rw[e1]at z
 rcases List.mem_append.mp z with z|z
 . exact n z
 . rw[f1 c z]at h;cases h
theorem Ext.trans {H ι H1 ι1 H2 ι2}(a:Ext H ι H1 ι1)(b:Ext H1 ι1 H2 ι2):Ext H ι H2 ι2:=by
 obtain⟨m1,e1,f1⟩:=a.more
 obtain⟨m2,e2,f2⟩:=b.more
 refine⟨λc o h n=>b.same c o (a.same c o h n) (a.old h n),λc h=>b.there c (a.there c h),⟨m1++m2,by rw[e2,e1,List.append_assoc],λc z=>?_⟩,b.bI.trans a.bI,λi hi=>(b.j4 i (by rw[e1,List.length_append];omega)).trans (a.j4 i hi)⟩
 rcases List.mem_append.mp z with z|z
 . exact f1 c z
 . cases q:H c with
   |none=>rfl
   |some o=>exact absurd (f2 c z) (a.there c (by rw[q];simp))
theorem Ext.at {H ι H1 ι1}(a:Ext H ι H1 ι1){i:Nat}{c:Addr}{b:Bool}(h:cj ι i c b):cj ι1 i c b:=by
 obtain⟨m1,e1,_⟩:=a.more
 have hl:=(List.getElem?_eq_some_iff.mp h.1).1
 refine⟨?_,by rw[a.j4 i hl];exact h.2⟩
 rw[e1,List.getElem?_append_left hl];exact h.1
theorem hZ.ext {K H ι H1 ι1 a xs}(e:Ext H ι H1 ι1)(h:hZ K H ι a xs):hZ K H1 ι1 a xs:=by
 rcases h with⟨h|⟨o,h⟩,n,k⟩|h
 . exact .inl ⟨.inl (e.same _ _ h n),e.old h n,by rw[e.bI];exact k⟩
 . exact .inl ⟨.inr ⟨o,e.same _ _ h n⟩,e.old h n,by rw[e.bI];exact k⟩
 . exact .inr h
theorem iI.ext {K H ι H1 ι1 a xs}(e:Ext H ι H1 ι1)(h:iI K H ι a xs):iI K H1 ι1 a xs:=by
 rcases h with⟨h|⟨o,h⟩,n⟩|h
 . exact .inl ⟨.inl (e.same _ _ h n),e.old h n⟩
 . exact .inl ⟨.inr ⟨o,e.same _ _ h n⟩,e.old h n⟩
 . exact .inr h
mutual
theorem Rel.ext {K H ι H1 ι1}(e:Ext H ι H1 ι1):∀(d:D) {v:V},Rel K H ι d v->Rel K H1 ι1 d v
 |.ao,v,h=>by simpa[Rel]using h
 |.bl _,v,h=>by simpa[Rel]using h
 |.int _,v,h=>by simpa[Rel]using h
 |.str _,v,h=>by simpa[Rel]using h
 |.tup xs,v,h=>by
  simp only[Rel]at h ⊢
  obtain⟨a,vs,e1,hq,hr⟩:=h
  exact⟨a,vs,e1,hq.ext e,ae.ext e xs hr⟩
 |.lst xs,v,h=>by
  simp only[Rel]at h ⊢
  obtain⟨a,vs,e1,hq,hr⟩:=h
  exact⟨a,vs,e1,hq.ext e,ae.ext e xs hr⟩
 |.bF,v,h=>by
  simp only[Rel]at h ⊢
  obtain⟨a,e1,hq,hr⟩:=h
  exact⟨a,e1,e.same _ _ hq hr,e.old hq hr⟩
 |.ref n,v,h=>by
  simp only[Rel]at h ⊢
  obtain⟨a,e1,hq⟩:=h
  exact⟨a,e1,e.at hq⟩
 |.aI n,v,h=>by
  simp only[Rel]at h ⊢
  obtain⟨a,e1,hq⟩:=h
  exact⟨a,e1,e.at hq⟩
 |.fn x,v,h=>by simpa[Rel]using h
theorem ae.ext {K H ι H1 ι1}(e:Ext H ι H1 ι1):∀(ds:List D) {vs:List V},ae K H ι ds vs->ae K H1 ι1 ds vs
 | [],vs,h=>by simpa[ae]using h
 |d::ds,vs,h=>by
  simp only[ae]at h ⊢
  obtain⟨v,vr,e1,hq,hr⟩:=h
  exact⟨v,vr,e1,Rel.ext e d hq,ae.ext e ds hr⟩
end
theorem bf.ext {K H ι H1 ι1 σd σ}(e:Ext H ι H1 ι1)(h:bf K H ι σd σ):bf K H1 ι1 σd σ :=
 ⟨h.1,λi d q=>let⟨v,a,b⟩:=h.2 i d q;⟨v,a,Rel.ext e d b⟩⟩
theorem ae.length {K H ι}:∀{ds:List D} {vs:List V},ae K H ι ds vs->ds.length=vs.length
 | [],vs,h=>by simp only[ae]at h;subst h;rfl
 |d::ds,vs,h=>by
  simp only[ae]at h
  obtain⟨v,vr,rfl,_,hr⟩:=h
  simp[ae.length hr]
theorem ae.append {K H ι}:∀{ds es:List D} {vs us:List V},ae K H ι ds vs->ae K H ι es us->ae K H ι (ds++es) (vs++us)
 | [],es,vs,us,h,k=>by simp only[ae]at h;subst h;exact k
 |d::ds,es,vs,us,h,k=>by
  simp only[ae]at h
  obtain⟨v,vr,rfl,hv,hr⟩:=h
  simp only[List.cons_append,ae]
  exact⟨v,_,rfl,hv,ae.append hr k⟩
theorem ae.get {K H ι}:∀{ds:List D} {vs:List V} {i:Nat} {d:D},ae K H ι ds vs->ds[i]? = some d->∃v,vs[i]? = some v/\Rel K H ι d v
 | [],_,_,_,_,e=>by simp at e
 |x::ds,vs,0,d,h,e=>by
  simp only[ae]at h
  obtain⟨v,vr,rfl,hv,hr⟩:=h
  simp at e;subst e;exact⟨v,rfl,hv⟩
 |x::ds,vs,i+1,d,h,e=>by
  simp only[ae]at h
  obtain⟨v,vr,rfl,hv,hr⟩:=h
  obtain⟨u,h1,h2⟩:=ae.get (i:=i) hr (by simpa using e)
  exact⟨u,by simpa using h1,h2⟩
theorem ae.set {K H ι d v}(hv:Rel K H ι d v):∀{ds:List D} {vs:List V} (i:Nat),ae K H ι ds vs->ae K H ι (ds.set i d) (vs.set i v)
 | [],_,_,h=>by simp only[ae]at h;subst h;simp[ae]
 |x::ds,vs,0,h=>by
  simp only[ae]at h
  obtain⟨u,vr,rfl,hu,hr⟩:=h
  simp only[List.set_cons_zero,ae]
  exact⟨v,vr,rfl,hv,hr⟩
 |x::ds,vs,i+1,h=>by
  simp only[ae]at h
  obtain⟨u,vr,rfl,hu,hr⟩:=h
  simp only[List.set_cons_succ,ae]
  exact⟨u,_,rfl,hu,ae.set hv i hr⟩
theorem ae.take {K H ι}:∀{ds:List D} {vs:List V} (n:Nat),ae K H ι ds vs->ae K H ι (ds.take n) (vs.take n)
 |_,_,0,_=>by simp[ae]
 | [],_,n+1,h=>by simp only[ae]at h;subst h;simp[ae]
 |x::ds,vs,n+1,h=>by
  simp only[ae]at h
  obtain⟨u,vr,rfl,hu,hr⟩:=h
  simp only[List.take_succ_cons,ae]
  exact⟨u,_,rfl,hu,ae.take n hr⟩
theorem ae.drop {K H ι}:∀{ds:List D} {vs:List V} (n:Nat),ae K H ι ds vs->ae K H ι (ds.drop n) (vs.drop n)
 |_,_,0,h=>h
 | [],_,n+1,h=>by simp only[ae]at h;subst h;simp[ae]
 |x::ds,vs,n+1,h=>by
  simp only[ae]at h
  obtain⟨u,vr,rfl,hu,hr⟩:=h
  simp only[List.drop_succ_cons]
  exact ae.drop n hr
theorem ak.at {K H ι g}(h:ak K H ι g){n:Nat}{xs:List D}{a:Addr}(e:g[n]? = some xs)(ha:cj ι n a false):∃vs,H a=some (.lst vs)/\ae K H ι xs vs:=by
 obtain⟨b,o,vs,hb,h1,ov,h2⟩:=h.at_ n xs e
 rw[ha.1]at hb;cases hb
 have hb:=ha.2
 generalize ι.kd n=k at ov hb
 cases ov with
 |l=>exact⟨vs,h1,h2⟩
 |d=>cases hb
theorem ak.iJ {K H ι g}(h:ak K H ι g){n:Nat}{xs:List D}{a:Addr}(e:g[n]? = some xs)(ha:cj ι n a true):
  ∃es vs c,H a=some (dO a es c)/\ι.kd n=c+1/\c<=es.length/\Vals vs (mI es)/\fQ K.w xs es/\(aJ xs).Nodup/\(a == sysModules)=false/\es.length<=sizeLine/\ae K H ι xs vs:=by
 obtain⟨b,o,vs,hb,h1,ov,h2⟩:=h.at_ n xs e
 rw[ha.1]at hb;cases hb
 have hb:=ha.2
 generalize ι.kd n=k at ov hb
 cases ov with
 |l=>cases hb
 |d c es vs h0 h3 h4 h5 h6 h7=>exact⟨es,vs,c,h1,rfl,h0,h3,h4,h5,h6,h7,h2⟩
theorem ak.oC {K H ι g}(h:ak K H ι g){a:Addr}(ha:a∈ι.ix):H a≠none:=by
 obtain⟨i,hi,e⟩:=List.mem_iff_getElem.mp ha
 have hg:i<g.length:=by rw[<- h.len];exact hi
 obtain⟨b,_,vs,hb,h1,_⟩:=h.at_ i _ (List.getElem?_eq_getElem hg)
 rw[List.getElem?_eq_getElem hi,e]at hb
 cases hb
 rw[h1];simp
theorem Ext.lay {H ι p o}(hp:H p=none):Ext H ι (upd H p o) ι :=
 ⟨λa u h _=>by rw[aL (bh h hp)];exact h,λa h=>by
  by_cases e:a=p
  . subst e;exact absurd hp h
  . rw[aL e];exact h,⟨[],by simp,λ_ h=>by simp at h⟩,rfl,λ_ _=>rfl⟩
theorem ak.ext {K H ι g H1}(h:ak K H ι g)(e:Ext H ι H1 ι)(k:∀a∈ι.ix,H1 a=H a):ak K H1 ι g :=
 ⟨h.nd,h.len,λb hb=>⟨(h.bI b hb).1,e.there b (h.bI b hb).2⟩,λi xs q=>by
  obtain⟨a,o,vs,h1,h2,ov,h3⟩:=h.at_ i xs q
  exact⟨a,o,vs,h1,by rw[k a (List.mem_of_getElem? h1)];exact h2,ov,ae.ext e xs h3⟩⟩
theorem ak.lay {K H ι g p o}(h:ak K H ι g)(hp:H p=none):ak K (upd H p o) ι g :=
 h.ext (Ext.lay hp) λa ha=>aL λe=>by subst e;exact h.oC ha hp
theorem ak.fresh {K H ι g p}(h:ak K H ι g)(hp:H p=none):p ∉ ι.ix:=λha=>h.oC ha hp
theorem ak.gK {K H ι g p}(h:ak K H ι g)(hp:H p=none):p ∉ ι.hd:=λha=>(h.bI p ha).2 hp
theorem Ext.fG {H ι p o b}(hp:H p=none):Ext H ι (upd H p o) (ι.more p b):=by
 have e:=Ext.lay (ι:=ι) (o:=o) hp
 refine⟨e.same,e.there,⟨[p],rfl,λa ha=>by simp at ha;subst ha;exact hp⟩,rfl,λi hi=>?_⟩
 show kb (if i=ι.ix.length then b else ι.kd i)=kb (ι.kd i)
 rw[if_neg (by omega)]
theorem Ext.push {H ι p o}(hp:H p=none):Ext H ι (upd H p o) (ι.more p 0):=Ext.fG hp
theorem ak.fG {K H ι g p o xs vs b}(h:ak K H ι g)(hp:H p=none)(ov:OV K p xs b o vs)(r:ae K H ι xs vs):ak K (upd H p o) (ι.more p b) (g ++ [xs]):=by
 have hn:=h.fresh hp
 refine⟨?_,by simp[Ix.more,h.len],λb hb=>⟨λz=>?_,(Ext.fG (ι:=ι) (o:=o) (b:=0) hp).there b (h.bI b hb).2⟩,λi ys q=>?_⟩
 . show(ι.ix ++ [p]).Nodup
   rw[List.nodup_append]
   refine⟨h.nd,by simp,λa ha b hb=>?_⟩
   simp at hb;subst hb
   intro e;subst e;exact hn ha
 . rcases List.mem_append.mp z with z|z
   . exact(h.bI b hb).1 z
   . simp at z;subst z;exact(h.bI _ hb).2 hp
 . by_cases hi:i<g.length
   . rw[List.getElem?_append_left hi]at q
     obtain⟨a,o',us,h1,h2,QA,h3⟩:=h.at_ i ys q
     refine⟨a,o',us,(by show(ι.ix ++ [p])[i]? = some a;rw[List.getElem?_append_left (by rw[h.len];exact hi)];exact h1),?_,?_,ae.ext (Ext.fG hp) ys h3⟩
     . rw[aL (bh h2 hp)];exact h2
     . show OV K _ _ (if i=ι.ix.length then b else ι.kd i) o' us
       rw[if_neg (by rw[h.len];omega)];exact QA
   . rw[List.getElem?_append_right (by omega)]at q
     have QB:i-g.length=0:=by
       cases e:i-g.length with
       |zero=>rfl
       |succ k=>rw[e]at q;simp at q
     rw[QB]at q
     have e:xs=ys:=by simpa using q
     subst e
     have yj:i=ι.ix.length:=by rw[h.len];omega
     refine⟨p,o,vs,?_,aR,?_,ae.ext (Ext.fG hp) xs r⟩
     . show(ι.ix ++ [p])[i]? = some p
       rw[yj];simp
     . show OV K _ _ (if i=ι.ix.length then b else ι.kd i) o vs
       rw[if_pos yj];exact ov
theorem ak.push {K H ι g p xs vs}(h:ak K H ι g)(hp:H p=none)(r:ae K H ι xs vs):ak K (upd H p (.lst vs)) (ι.more p 0) (g ++ [xs]):=h.fG hp (.l vs) r
theorem cj.new {ι:Ix}{p:Addr}{k:Nat}{n:Nat}(h:ι.ix.length=n):cj (ι.more p k) n p (kb k):=by
 subst h
 exact⟨by show(ι.ix ++ [p])[ι.ix.length]? = some p;simp,by show kb (if ι.ix.length=ι.ix.length then k else ι.kd ι.ix.length)=kb k;rw[if_pos rfl]⟩
theorem Ext.put {H ι}{n:Nat}{a o o'}{b:Bool}(ha:cj ι n a b)(h:H a=some o):Ext H ι (upd H a o') ι :=
 ⟨λb o q nb=>by rw[aL (λe=>nb (by rw[e];exact List.mem_of_getElem? ha.1))];exact q,λb q=>by
  by_cases e:b=a
  . subst e;rw[aR];simp
  . rw[aL e];exact q,⟨[],by simp,λ_ z=>by simp at z⟩,rfl,λ_ _=>rfl⟩
theorem ak.Hg {K H ι g}{n:Nat}{a o o' xs ws}{b:Bool}(h:ak K H ι g)(ha:cj ι n a b)(hv:H a=some o)(ov:OV K a xs (ι.kd n) o' ws)(r:ae K H ι xs ws):ak K (upd H a o') ι (g.set n xs):=by
 refine⟨h.nd,by simp[h.len],λb hb=>⟨(h.bI b hb).1,(Ext.put ha hv).there b (h.bI b hb).2⟩,λi ys q=>?_⟩
 by_cases e:i=n
 . subst e
   have hi:i<g.length:=by rw[<- h.len];exact(List.getElem?_eq_some_iff.mp ha.1).1
   rw[List.getElem?_set_self hi]at q
   cases q
   exact⟨a,o',ws,ha.1,aR,ov,ae.ext (Ext.put ha hv) _ r⟩
 . rw[List.getElem?_set_ne (Ne.symm e)]at q
   obtain⟨b,o2,us,h1,h2,Hh,h3⟩:=h.at_ i ys q
   refine⟨b,o2,us,h1,?_,Hh,ae.ext (Ext.put ha hv) ys h3⟩
   rw[aL ?_]
   . exact h2
   . intro z
     subst z
     obtain⟨hi,e1⟩:=List.getElem?_eq_some_iff.mp h1
     obtain⟨hn,e2⟩:=List.getElem?_eq_some_iff.mp ha.1
     exact e ((List.getElem_inj h.nd).mp (e1.trans e2.symm))
noncomputable def Ix.Hi (ι:Ix)(n k:Nat):Ix:=⟨ι.ix,ι.hd,λi=>if i=n then k else ι.kd i⟩
theorem Ext.putK {H ι}{n k:Nat}{a o o'}{b:Bool}(ha:cj ι n a b)(h:H a=some o)(hk:kb k=b):Ext H ι (upd H a o') (ι.Hi n k):=by
 have e:=Ext.put (o':=o') ha h
 refine⟨e.same,e.there,e.more,rfl,λi _=>?_⟩
 show kb (if i=n then k else ι.kd i)=kb (ι.kd i)
 split
 . rename_i z;subst z;rw[hk,ha.2]
 . rfl
theorem ak.putK {K H ι g}{n k:Nat}{a o o' xs ws}{b:Bool}(h:ak K H ι g)(ha:cj ι n a b)(hv:H a=some o)(hk:kb k=b)(ov:OV K a xs k o' ws)(r:ae K H ι xs ws):ak K (upd H a o') (ι.Hi n k) (g.set n xs):=by
 refine⟨h.nd,by show ι.ix.length=_;simp[h.len],λb hb=>⟨(h.bI b hb).1,(Ext.put ha hv).there b (h.bI b hb).2⟩,λi ys q=>?_⟩
 by_cases e:i=n
 . subst e
   have hi:i<g.length:=by rw[<- h.len];exact(List.getElem?_eq_some_iff.mp ha.1).1
   rw[List.getElem?_set_self hi]at q
   cases q
   refine⟨a,o',ws,ha.1,aR,?_,ae.ext (Ext.putK ha hv hk) _ r⟩
   show OV K a xs (if i=i then k else ι.kd i) o' ws
   rw[if_pos rfl];exact ov
 . rw[List.getElem?_set_ne (Ne.symm e)]at q
   obtain⟨b,o2,us,h1,h2,Hh,h3⟩:=h.at_ i ys q
   refine⟨b,o2,us,h1,?_,?_,ae.ext (Ext.putK ha hv hk) ys h3⟩
   . rw[aL ?_]
     . exact h2
     . intro z
       subst z
       obtain⟨hi,e1⟩:=List.getElem?_eq_some_iff.mp h1
       obtain⟨hn,e2⟩:=List.getElem?_eq_some_iff.mp ha.1
       exact e ((List.getElem_inj h.nd).mp (e1.trans e2.symm))
   . show OV K b ys (if i=n then k else ι.kd i) o2 us
     rw[if_neg e];exact Hh
theorem ak.put {K H ι g}{n:Nat}{a vs xs ws}(h:ak K H ι g)(ha:cj ι n a false)(hv:H a=some (.lst vs))(r:ae K H ι xs ws):ak K (upd H a (.lst ws)) ι (g.set n xs):=h.Hg ha hv (by
 have hb:=ha.2
 cases e:ι.kd n with
 |zero=>exact .l ws
 |succ k=>rw[e]at hb;cases hb) r
noncomputable def Ix.hide (ι:Ix)(p:Addr):Ix:=⟨ι.ix,p::ι.hd,ι.kd⟩
mutual
theorem Rel.show {K H ι p}:∀(d:D) {v:V},Rel K H (Ix.hide ι p) d v->Rel K H ι d v
 |.ao,v,h=>by simpa[Rel]using h
 |.bl _,v,h=>by simpa[Rel]using h
 |.int _,v,h=>by simpa[Rel]using h
 |.str _,v,h=>by simpa[Rel]using h
 |.tup xs,v,h=>by
  simp only[Rel]at h ⊢
  obtain⟨a,vs,e1,hq,hr⟩:=h
  exact⟨a,vs,e1,hq,ae.show xs hr⟩
 |.lst xs,v,h=>by
  simp only[Rel]at h ⊢
  obtain⟨a,vs,e1,hq,hr⟩:=h
  refine⟨a,vs,e1,?_,ae.show xs hr⟩
  rcases hq with⟨h,n,k⟩|h
  . exact .inl ⟨h,n,λz=>k (List.mem_cons_of_mem _ z)⟩
  . exact .inr h
 |.bF,v,h=>by simpa[Rel,Ix.hide]using h
 |.ref n,v,h=>by simpa[Rel,Ix.hide,cj]using h
 |.aI n,v,h=>by simpa[Rel,Ix.hide,cj]using h
 |.fn x,v,h=>by simpa[Rel]using h
theorem ae.show {K H ι p}:∀(ds:List D) {vs:List V},ae K H (Ix.hide ι p) ds vs->ae K H ι ds vs
 | [],vs,h=>by simpa[ae]using h
 |d::ds,vs,h=>by
  simp only[ae]at h ⊢
  obtain⟨v,vr,e1,hq,hr⟩:=h
  exact⟨v,vr,e1,Rel.show d hq,ae.show ds hr⟩
end
mutual
theorem Rel.hide {K H ι p o}(hp:H p=none):∀(d:D) {v:V},Rel K H ι d v->Rel K (upd H p o) (Ix.hide ι p) d v
 |.ao,v,h=>by simpa[Rel]using h
 |.bl _,v,h=>by simpa[Rel]using h
 |.int _,v,h=>by simpa[Rel]using h
 |.str _,v,h=>by simpa[Rel]using h
 |.tup xs,v,h=>by
  simp only[Rel]at h ⊢
  obtain⟨a,vs,e1,hq,hr⟩:=h
  refine⟨a,vs,e1,?_,ae.hide hp xs hr⟩
  rcases hq with⟨h|⟨u,h⟩,n⟩|h
  . exact .inl ⟨.inl (by rw[aL (bh h hp)];exact h),n⟩
  . exact .inl ⟨.inr ⟨u,by rw[aL (bh h hp)];exact h⟩,n⟩
  . exact .inr h
 |.lst xs,v,h=>by
  simp only[Rel]at h ⊢
  obtain⟨a,vs,e1,hq,hr⟩:=h
  refine⟨a,vs,e1,?_,ae.hide hp xs hr⟩
  have out:∀{u:HO},H a=some u->a ∉ ι.hd->a ∉ (Ix.hide ι p).hd:=λh k z=>by
    rcases List.mem_cons.mp z with z|z
    . exact bh h hp z
    . exact k z
  rcases hq with⟨h|⟨u,h⟩,n,k⟩|h
  . exact .inl ⟨.inl (by rw[aL (bh h hp)];exact h),n,out h k⟩
  . exact .inl ⟨.inr ⟨u,by rw[aL (bh h hp)];exact h⟩,n,out h k⟩
  . exact .inr h
 |.bF,v,h=>by
  simp only[Rel]at h ⊢
  obtain⟨a,e1,hq,hr⟩:=h
  exact⟨a,e1,by rw[aL (bh hq hp)];exact hq,hr⟩
 |.ref n,v,h=>by simpa[Rel,Ix.hide,cj]using h
 |.aI n,v,h=>by simpa[Rel,Ix.hide,cj]using h
 |.fn x,v,h=>by simpa[Rel]using h
theorem ae.hide {K H ι p o}(hp:H p=none):∀(ds:List D) {vs:List V},ae K H ι ds vs->ae K (upd H p o) (Ix.hide ι p) ds vs
 | [],vs,h=>by simpa[ae]using h
 |d::ds,vs,h=>by
  simp only[ae]at h ⊢
  obtain⟨v,vr,e1,hq,hr⟩:=h
  exact⟨v,vr,e1,Rel.hide hp d hq,ae.hide hp ds hr⟩
end
mutual
theorem Rel.grow {K H ι p us ws}(hp:H p=some (.lst us)):∀(d:D) {v:V},Rel K H (Ix.hide ι p) d v->Rel K (upd H p (.lst ws)) (Ix.hide ι p) d v
 |.ao,v,h=>by simpa[Rel]using h
 |.bl _,v,h=>by simpa[Rel]using h
 |.int _,v,h=>by simpa[Rel]using h
 |.str _,v,h=>by simpa[Rel]using h
 |.tup xs,v,h=>by
  simp only[Rel]at h ⊢
  obtain⟨a,vs,e1,hq,hr⟩:=h
  refine⟨a,vs,e1,?_,ae.grow hp xs hr⟩
  rcases hq with⟨h|⟨u,h⟩,n⟩|h
  . exact .inl ⟨.inl (by rw[aL (vM h hp (by simp))];exact h),n⟩
  . exact .inl ⟨.inr ⟨u,by rw[aL (vM h hp (by simp))];exact h⟩,n⟩
  . exact .inr h
 |.lst xs,v,h=>by
  simp only[Rel]at h ⊢
  obtain⟨a,vs,e1,hq,hr⟩:=h
  refine⟨a,vs,e1,?_,ae.grow hp xs hr⟩
  rcases hq with⟨h,n,k⟩|h
  . have ne:a≠p:=λz=>k (by rw[z];exact List.mem_cons_self)
    rcases h with h|⟨u,h⟩
    . exact .inl ⟨.inl (by rw[aL ne];exact h),n,k⟩
    . exact .inl ⟨.inr ⟨u,by rw[aL ne];exact h⟩,n,k⟩
  . exact .inr h
 |.bF,v,h=>by
  simp only[Rel]at h ⊢
  obtain⟨a,e1,hq,hr⟩:=h
  exact⟨a,e1,by rw[aL (vM hq hp (by simp))];exact hq,hr⟩
 |.ref n,v,h=>by simpa[Rel,Ix.hide,cj]using h
 |.aI n,v,h=>by simpa[Rel,Ix.hide,cj]using h
 |.fn x,v,h=>by simpa[Rel]using h
theorem ae.grow {K H ι p us ws}(hp:H p=some (.lst us)):∀(ds:List D) {vs:List V},ae K H (Ix.hide ι p) ds vs->ae K (upd H p (.lst ws)) (Ix.hide ι p) ds vs
 | [],vs,h=>by simpa[ae]using h
 |d::ds,vs,h=>by
  simp only[ae]at h ⊢
  obtain⟨v,vr,e1,hq,hr⟩:=h
  exact⟨v,vr,e1,Rel.grow hp d hq,ae.grow hp ds hr⟩
end
theorem ak.hide {K H ι p o g}(hp:H p=none)(h:ak K H ι g):ak K (upd H p o) (Ix.hide ι p) g :=
 ⟨h.nd,h.len,λb hb=>by
  rcases List.mem_cons.mp hb with rfl|hb
  . exact⟨h.fresh hp,by rw[aR];simp⟩
  . refine⟨(h.bI b hb).1,?_⟩
    by_cases e:b=p
    . subst e;rw[aR];simp
    . rw[aL e];exact(h.bI b hb).2,λi xs q=>by
  obtain⟨a,o,vs,h1,h2,ov,h3⟩:=h.at_ i xs q
  exact⟨a,o,vs,h1,by rw[aL (bh h2 hp)];exact h2,ov,ae.hide hp xs h3⟩⟩
theorem ak.show {K H ι p g}(h:ak K H (Ix.hide ι p) g):ak K H ι g :=
 ⟨h.nd,h.len,λb hb=>h.bI b (List.mem_cons_of_mem _ hb),λi xs q=>by
  obtain⟨a,o,vs,h1,h2,ov,h3⟩:=h.at_ i xs q
  exact⟨a,o,vs,h1,h2,ov,ae.show xs h3⟩⟩
theorem ak.grow {K H ι p us ws g}(hp:H p=some (.lst us))(h:ak K H (Ix.hide ι p) g):ak K (upd H p (.lst ws)) (Ix.hide ι p) g :=
 ⟨h.nd,h.len,λb hb=>⟨(h.bI b hb).1,by
   by_cases e:b=p
   . subst e;rw[aR];simp
   . rw[aL e];exact(h.bI b hb).2⟩,λi xs q=>by
  obtain⟨a,o,vs,h1,h2,ov,h3⟩:=h.at_ i xs q
  refine⟨a,o,vs,h1,?_,ov,ae.grow hp xs h3⟩
  rw[aL (λe=>(h.bI p List.mem_cons_self).1 (by rw[<- e];exact List.mem_of_getElem? h1))];exact h2⟩
abbrev FE:=Sg->G->Option (D×G)
abbrev FT:=Sg->G->Option (Bool×G)
abbrev FA:=Sg->G->Option (List D×G)
def eF (K:KW)(H:Hp)(ι:Ix)(d:D)(g':G)(Q:VK):Prop:=∀H' ι' v,Ext H ι H' ι'->ak K H' ι' g'->Rel K H' ι' d v->Q v H'
def KL (K:KW)(H:Hp)(ι:Ix)(ds:List D)(g':G)(Q:List V->Hp->Prop):Prop:=∀H' ι' vs,Ext H ι H' ι'->ak K H' ι' g'->ae K H' ι' ds vs->Q vs H'
def mJ (K:KW)(H:Hp)(ι:Ix)(g':G)(Q:Hp->Prop):Prop:=∀H' ι',Ext H ι H' ι'->ak K H' ι' g'->Q H'
inductive tD (K:KW)(f:FE)(σ:L2.St)(H:Hp)(Q:VK):Prop
 |mk (ι:Ix) (σd:Sg) (g:G) (d:D) (g':G) (h0:ak K H ι g) (h1:bf K H ι σd σ) (h2:f σd g=some (d,g')) (h3:eF K H ι d g' Q):tD K f σ H Q
inductive gi (K:KW)(f:FA)(σ:L2.St)(H:Hp)(Q:(List V->Hp->Prop)):Prop
 |mk (ι:Ix) (σd:Sg) (g:G) (d:List D) (g':G) (h0:ak K H ι g) (h1:bf K H ι σd σ) (h2:f σd g=some (d,g')) (h3:KL K H ι d g' Q):gi K f σ H Q
inductive jL (K:KW)(f:FT)(σ:L2.St)(H:Hp)(Q:(Bool->Hp->Prop)):Prop
 |mk (ι:Ix) (σd:Sg) (g:G) (b:Bool) (g':G) (h0:ak K H ι g) (h1:bf K H ι σd σ) (h2:f σd g=some (b,g')) (h3:mJ K H ι g' (Q b)):jL K f σ H Q
structure DE (X:Cx)(e:Expr)(f:FE):Prop where of ::
 un:PE X e (tD X.kw f)
structure DA (X:Cx)(es:List Expr)(f:FA):Prop where of ::
 un:PA X es (gi X.kw f)
structure DT (X:Cx)(e:Expr)(f:FT):Prop where of ::
 un:PT X e (jL X.kw f)
structure DW (X:Cx)(e:Expr)(f:FT):Prop where of ::
 un:PW X e (jL X.kw f)
theorem PE.imp {X:Cx}{e:Expr}{t t':TE}(h:PE X e t)(i:∀σ H Q,t' σ H Q->t σ H Q):PE X e t':=λpins s σ H Q I q=>h pins s σ H Q I (i σ H Q q)
theorem PT.imp {X:Cx}{e:Expr}{t t':TT}(h:PT X e t)(i:∀σ H Q,t' σ H Q->t σ H Q):PT X e t':=λpins s σ H Q I q=>h pins s σ H Q I (i σ H Q q)
theorem PW.imp {X:Cx}{e:Expr}{t t':TT}(h:PW X e t)(i:∀σ H Q,t' σ H Q->t σ H Q):PW X e t':=λw pins s σ H Q I q=>h w pins s σ H Q I (i σ H Q q)
theorem PA.imp {X:Cx}{e:List Expr}{t t':TA}(h:PA X e t)(i:∀σ H Q,t' σ H Q->t σ H Q):PA X e t':=λpos pins s σ H Q I q=>h pos pins s σ H Q I (i σ H Q q)
theorem eF.mono {K H ι H1 ι1 d g' Q}(e:Ext H ι H1 ι1)(p:eF K H ι d g' Q):eF K H1 ι1 d g' Q:=λH' ι' v e' r q=>p H' ι' v (e.trans e') r q
theorem mJ.mono {K H ι H1 ι1 g' Q}(e:Ext H ι H1 ι1)(p:mJ K H ι g' Q):mJ K H1 ι1 g' Q:=λH' ι' e' r=>p H' ι' (e.trans e') r
theorem tD.bind {K f}{σ:L2.St}{H:Hp}{Q:VK}{ι σd g d g'}(G0:ak K H ι g)(S0:bf K H ι σd σ)(h:f σd g=some (d,g'))
  (k:∀H1 ι1 v,Ext H ι H1 ι1->ak K H1 ι1 g'->bf K H1 ι1 σd σ->Rel K H1 ι1 d v->Q v H1):tD K f σ H Q :=
 ⟨ι,σd,g,d,g',G0,S0,h,λH' ι' v e r q=>k H' ι' v e r (S0.ext e) q⟩
theorem gi.bind {K f}{σ:L2.St}{H:Hp}{Q:List V->Hp->Prop}{ι σd g d g'}(G0:ak K H ι g)(S0:bf K H ι σd σ)(h:f σd g=some (d,g'))
  (k:∀H1 ι1 v,Ext H ι H1 ι1->ak K H1 ι1 g'->bf K H1 ι1 σd σ->ae K H1 ι1 d v->Q v H1):gi K f σ H Q :=
 ⟨ι,σd,g,d,g',G0,S0,h,λH' ι' v e r q=>k H' ι' v e r (S0.ext e) q⟩
theorem jL.bind {K f}{σ:L2.St}{H:Hp}{Q:Bool->Hp->Prop}{ι σd g d g'}(G0:ak K H ι g)(S0:bf K H ι σd σ)(h:f σd g=some (d,g'))
  (k:∀H1 ι1,Ext H ι H1 ι1->ak K H1 ι1 g'->bf K H1 ι1 σd σ->Q d H1):jL K f σ H Q :=
 ⟨ι,σd,g,d,g',G0,S0,h,λH' ι' e r=>k H' ι' e r (S0.ext e)⟩
section
variable {X:Cx}{a b c e:Expr}{es rest:List Expr}{pos:Pos}{fa fb fc:FE}{fr:FA}{ga gb:FT}
noncomputable def fC (d:D):FE:=λ_ g=>some (d,g)
noncomputable def ab (i:Nat):FE:=λσ g=>match σ[i]? with|some (some d)=>some (d,g)|_=>none
theorem Hj {i j pos}:DE X (.Constant (.int i) j pos) (fC (.int i)):=.of (PE.imp FW λσ H Q h=>by
 obtain⟨ι,σd,g,d,g',G0,S0,h,p⟩:=h
 cases h;exact p H ι _ Ext.refl G0 (by simp[Rel]))
theorem Hk {i j pos}:DE X (.Constant (.str i) j pos) (fC (.str i)):=.of (PE.imp FY λσ H Q h=>by
 obtain⟨ι,σd,g,d,g',G0,S0,h,p⟩:=h
 cases h;exact p H ι _ Ext.refl G0 (by simp[Rel]))
theorem KN {i j pos}:DE X (.Constant (.bool i) j pos) (fC (.bl i)):=.of (PE.imp Kj λσ H Q h=>by
 obtain⟨ι,σd,g,d,g',G0,S0,h,p⟩:=h
 cases h;exact p H ι _ Ext.refl G0 (by simp[Rel]))
theorem Hl {j pos}:DE X (.Constant .none j pos) (fC .ao):=.of (PE.imp FX λσ H Q h=>by
 obtain⟨ι,σd,g,d,g',G0,S0,h,p⟩:=h
 cases h;exact p H ι _ Ext.refl G0 (by simp[Rel]))
theorem Hm (i:Nat){x:Str}{pos:Pos}(hN:X.N[i]? = some x:=by rfl)(hv:FQ X.env.scope x:=by first|exact Or.inl rfl|exact Or.inr (Or.inl rfl)|exact Or.inr (Or.inr rfl))(hd:(x == ("__debug__":Str))=false:=by decide)
   (lu:(x == ("__classdict__":Str))=false:=by decide):DE X (.Name x pos) (ab i):=.of (PE.imp (FV hN hv hd lu) λσ H Q h=>by
 obtain⟨ι,σd,g,d,g',G0,S0,h,p⟩:=h
 unfold ab at h
 split at h
 . rename_i d' e
   obtain⟨rfl,rfl⟩:d'=d/\g=g':=by cases h;exact⟨rfl,rfl⟩
   obtain⟨v,h1,h2⟩:=S0.2 i _ e
   exact⟨v,h1,p H ι v Ext.refl G0 h2⟩
 . cases h)
theorem Ea {x:Str}{v:V}{u:Value}{d:D}(hg:Gl X x)(hm:X.mg x=some u)(r:RelV v u)(rd:∀K H ι,Rel K H ι d v)(hd:(x == ("__debug__":Str))=false:=by decide):DE X (.Name x pos) (fC d):=.of (
 PE.imp (d5 hg hm r hd) λσ H Q h=>by
  obtain⟨ι,σd,g,d,g',G0,S0,h,p⟩:=h
  cases h;exact p H ι _ Ext.refl G0 (rd _ _ _))
inductive ck (K:KW)(o:D->D->G->Option (D×G))(x:V)(y:V)(H:Hp)(Q:VK):Prop
 |mk (ι:Ix) (g:G) (d1:D) (d2:D) (d:D) (g':G) (h0:ak K H ι g) (h1:Rel K H ι d1 x) (h2:Rel K H ι d2 y) (h3:o d1 d2 g=some (d,g')) (h4:eF K H ι d g' Q):ck K o x y H Q
inductive Hn (K:KW)(o:D->G->Option (D×G))(x:V)(H:Hp)(Q:VK):Prop
 |mk (ι:Ix) (g:G) (d1:D) (d:D) (g':G) (h0:ak K H ι g) (h1:Rel K H ι d1 x) (h2:o d1 g=some (d,g')) (h3:eF K H ι d g' Q):Hn K o x H Q
inductive h_ (K:KW)(o:List D->G->Option (D×G))(xs:List V)(H:Hp)(Q:VK):Prop
 |mk (ι:Ix) (g:G) (ds:List D) (d:D) (g':G) (h0:ak K H ι g) (h1:ae K H ι ds xs) (h2:o ds g=some (d,g')) (h3:eF K H ι d g' Q):h_ K o xs H Q
noncomputable def ai (o:D->D->G->Option (D×G))(fa fb:FE):FE:=λσ g=>(fa σ g).bind λr=>(fb σ r.2).bind λq=>o r.1 q.1 q.2
noncomputable def j5 (o:D->G->Option (D×G))(fa:FE):FE:=λσ g=>(fa σ g).bind λr=>o r.1 r.2
theorem bind_some {α β:Type}{x:Option α}{f:α->Option β}{b:β}(h:x.bind f=some b):∃a,x=some a/\f a=some b:=by
 cases x with
 |none=>cases h
 |some a=>exact⟨a,rfl,h⟩
theorem mK {K}{o:D->D->G->Option (D×G)}{σ:L2.St}{H:Hp}{Q:VK}(h:tD K (ai o fa fb) σ H Q):uy (ck K o) (tD K fa) (tD K fb) σ H Q:=by
 obtain⟨ι,σd,g,d,g',G0,S0,h,p⟩:=h
 obtain⟨⟨d1,g1⟩,h1,h⟩:=bind_some h
 obtain⟨⟨d2,g2⟩,h2,h⟩:=bind_some h
 refine tD.bind G0 S0 h1 λH1 ι1 v e1 G1 S1 r1=>?_
 refine tD.bind G1 S1 h2 λH2 ι2 u e2 G2 S2 r2=>?_
 exact⟨ι2,g2,d1,d2,d,g',G2,Rel.ext e2 _ r1,r2,h,p.mono (e1.trans e2)⟩
theorem kD {op:Operator}{o:D->D->G->Option (D×G)}(ho:aX X (binaryOp op) (ck X.kw o))(ha:DE X a fa)(hb:DE X b fb):DE X (.BinOp a op b pos) (ai o fa fb):=.of (
 PE.imp (Kt ho ha.un hb.un) λσ H Q h=>mK h)
theorem yk {op:CmpOp}{o:D->D->G->Option (D×G)}(ho:aX X (compareOp op) (ck X.kw o))(ha:DE X a fa)(hb:DE X b fb)(hm:behindInMarks op b=false:=by first|exact Ho _|with_unfolding_all rfl):DE X (.Compare a [op] [b] pos) (ai o fa fb):=.of (
 PE.imp (nM ho ha.un hb.un hm) λσ H Q h=>mK h)
theorem KO {op:UnaryOp}{o:D->G->Option (D×G)}(ho:xP X (unaryOp op) (Hn X.kw o))(ha:DE X a fa):DE X (.UnaryOp op a pos) (j5 o fa):=.of (
 PE.imp (Ku ho ha.un) λσ H Q h=>by
  obtain⟨ι,σd,g,d,g',G0,S0,h,p⟩:=h
  obtain⟨⟨d1,g1⟩,h1,h⟩:=bind_some h
  refine tD.bind G0 S0 h1 λH1 ι1 v e1 G1 S1 r1=>?_
  exact⟨ι1,g1,d1,d,g',G1,r1,h,p.mono e1⟩)
noncomputable def jM (r:Option (D×G)):Option (Bool×G):=r.bind λr=>match r.1 with|.bl b=>some (b,r.2)|_=>none
theorem qU {r:Option (D×G)}{b:Bool}{g:G}(h:jM r=some (b,g)):r=some (.bl b,g):=by
 obtain⟨⟨d,g1⟩,h1,h⟩:=bind_some h
 cases d with
 |bl k=>cases h;exact h1
 |_=>cases h
noncomputable def ay (f:FE):FT:=λσ g=>jM (f σ g)
theorem lT {K f}{σ:L2.St}{H:Hp}{Q:Bool->Hp->Prop}(h:jL K (ay f) σ H Q):pP (tD K f) σ H Q:=by
 obtain⟨ι,σd,g,b,g',G0,S0,h,p⟩:=h
 obtain⟨⟨d,g1⟩,h1,h⟩:=bind_some h
 cases d with
 |bl k =>
  cases h
  exact tD.bind G0 S0 h1 λH1 ι1 v e1 G1 S1 r1=>⟨b,by simpa[Rel]using r1,p H1 ι1 e1 G1⟩
 |_=>cases h
theorem jl {t t':TE}(i:∀σ H Q,t' σ H Q->t σ H Q){σ:L2.St}{H:Hp}{Q:Bool->Hp->Prop}(h:pP t' σ H Q):pP t σ H Q:=i σ H _ h
theorem ym {op:CmpOp}{o:D->D->G->Option (D×G)}(ho:aX X (compareOp op) (ck X.kw o))(ha:DE X a fa)(hb:DE X b fb)(hm:behindInMarks op b=false:=by first|exact Ho _|with_unfolding_all rfl):DT X (.Compare a [op] [b] pos) (ay (ai o fa fb)):=.of (
 PT.imp (nO ho ha.un hb.un hm) λσ H Q h=>jl (λ_ _ _=>mK) (lT h))
noncomputable def iw (d:D)(g:G):Option Bool:=match d with
 |.ao=>some false
 |.bl b=>some b
 |.int i=>some (i != 0)
 |.tup xs=>some (!xs.isEmpty)
 |.lst xs=>some (!xs.isEmpty)
 |.bF=>some false
 |.ref n=>match g[n]? with|some xs=>some (!xs.isEmpty)|none=>none
 |.str _=>none
 |.aI _=>none
 |.fn _=>none
noncomputable def qV (f:FE):FT:=λσ g=>(f σ g).bind λr=>(iw r.1 r.2).map λb=>(b,r.2)
theorem ae.isEmpty {K H ι}{ds:List D}{vs:List V}(h:ae K H ι ds vs):ds.isEmpty=vs.isEmpty:=by
 have:=h.length
 cases ds<;>cases vs<;>simp_all
theorem Eb {K H ι g d v b}(G0:ak K H ι g)(r:Rel K H ι d v)(h:iw d g=some b):AD K v H b:=by
 cases d with
 |ao=>simp only[Rel]at r;subst r;cases h;rfl
 |bl x=>simp only[Rel]at r;subst r;cases h;rfl
 |int x=>simp only[Rel]at r;subst r;cases h;rfl
 |str x=>cases h
 |tup xs =>
  simp only[Rel]at r;obtain⟨a,vs,rfl,hq,hr⟩:=r;cases h
  exact .inr (.inl ⟨vs,hq.sq,by rw[hr.isEmpty]⟩)
 |lst xs =>
  simp only[Rel]at r;obtain⟨a,vs,rfl,hq,hr⟩:=r;cases h
  exact .inl ⟨vs,hq.sq,by rw[hr.isEmpty]⟩
 |bF =>
  simp only[Rel]at r;obtain⟨a,rfl,hq,_⟩:=r;cases h
  exact .inr (.inr ⟨[],hq,rfl⟩)
 |ref n =>
  simp only[Rel]at r;obtain⟨a,rfl,ha⟩:=r
  simp only[iw]at h
  split at h
  . rename_i xs e
    cases h
    obtain⟨vs,h1,h2⟩:=G0.at e ha
    exact .inl ⟨vs,.of h1,by rw[h2.isEmpty]⟩
  . cases h
 |aI n=>cases h
 |fn x=>cases h
theorem Hq (ha:DE X a fa)(he:∀whole,isTrue a X.env whole=(do let v <- whole;standAt a.pos;holding [v] (truthy v)):=by intro _;rfl):DT X a (qV fa):=.of (
 PT.imp (AE ha.un he) λσ H Q h=>by
  obtain⟨ι,σd,g,b,g',G0,S0,h,p⟩:=h
  obtain⟨⟨d,g1⟩,h1,h⟩:=bind_some h
  cases ht:iw d g1 with
  |none=>rw[ht]at h;cases h
  |some k =>
   rw[ht]at h;cases h
   exact tD.bind G0 S0 h1 λH1 ι1 v e1 G1 S1 r1=>⟨b,Eb G1 r1 ht,p H1 ι1 e1 G1⟩)
noncomputable def cU (ga gb:FT):FT:=λσ g=>(ga σ g).bind λr=>if r.1=true then gb σ r.2 else some (false,r.2)
noncomputable def yn (ga gb:FT):FT:=λσ g=>(ga σ g).bind λr=>if r.1=true then some (true,r.2)else gb σ r.2
noncomputable def qW (ga:FT):FT:=λσ g=>(ga σ g).bind λr=>some (!r.1,r.2)
theorem Ec (ha:DT X a ga):DW X (.BoolOp .And [a] pos) ga:=.of (Dy ha.un)
theorem Hr (ha:DT X a ga):DW X (.BoolOp .Or [a] pos) ga:=.of (FZ ha.un)
theorem Hs (ha:DT X a ga)(hb:DW X (.BoolOp .And (b::rest) pos) gb):DW X (.BoolOp .And (a::b::rest) pos) (cU ga gb):=.of (
 PW.imp (F0 ha.un hb.un) λσ H Q h=>by
  obtain⟨ι,σd,g,k,g',G0,S0,h,p⟩:=h
  obtain⟨⟨k1,g1⟩,h1,h⟩:=bind_some h
  refine jL.bind G0 S0 h1 λH1 ι1 e1 G1 S1=>?_
  cases k1 with
  |true=>simp only[if_true]at h ⊢;exact⟨ι1,σd,g1,k,g',G1,S1,h,p.mono e1⟩
  |false=>simp only[Bool.false_eq_true,if_false]at h ⊢;cases h;exact p H1 ι1 e1 G1)
theorem KP (ha:DT X a ga)(hb:DW X (.BoolOp .Or (b::rest) pos) gb):DW X (.BoolOp .Or (a::b::rest) pos) (yn ga gb):=.of (
 PW.imp (Kk ha.un hb.un) λσ H Q h=>by
  obtain⟨ι,σd,g,k,g',G0,S0,h,p⟩:=h
  obtain⟨⟨k1,g1⟩,h1,h⟩:=bind_some h
  refine jL.bind G0 S0 h1 λH1 ι1 e1 G1 S1=>?_
  cases k1 with
  |false=>simp only[Bool.false_eq_true,if_false]at h ⊢;exact⟨ι1,σd,g1,k,g',G1,S1,h,p.mono e1⟩
  |true=>simp only[if_true]at h ⊢;cases h;exact p H1 ι1 e1 G1)
theorem DW.dt (h:DW X a ga):DT X a ga:=.of (PW.pt h.un)
theorem Ht (ha:DT X a ga):DT X (.UnaryOp .Not a pos) (qW ga):=.of (
 PT.imp (F1 ha.un) λσ H Q h=>by
  obtain⟨ι,σd,g,k,g',G0,S0,h,p⟩:=h
  obtain⟨⟨k1,g1⟩,h1,h⟩:=bind_some h
  cases h
  exact jL.bind G0 S0 h1 λH1 ι1 e1 G1 S1=>p H1 ι1 e1 G1)
noncomputable def wg (fa fb:FE):FE:=λσ g=>(jM (fa σ g)).bind λr=>if r.1=true then fb σ r.2 else some (.bl false,r.2)
noncomputable def AS (fa fb:FE):FE:=λσ g=>(jM (fa σ g)).bind λr=>if r.1=true then some (.bl true,r.2)else fb σ r.2
theorem Hu {op}(h:DE X a fa):DE X (.BoolOp op [a] pos) fa:=.of (F2 h.un)
theorem yo (ha:DE X a fa)(hb:DE X (.BoolOp .And (b::rest) pos) fb):DE X (.BoolOp .And (a::b::rest) pos) (wg fa fb):=.of (
 PE.imp (F3 ha.un hb.un) λσ H Q h=>by
  obtain⟨ι,σd,g,d,g',G0,S0,h,p⟩:=h
  obtain⟨⟨k1,g1⟩,h1,h⟩:=bind_some h
  have h1:=qU h1
  refine tD.bind G0 S0 h1 λH1 ι1 v e1 G1 S1 r1=>⟨k1,by simpa[Rel]using r1,?_⟩
  cases k1 with
  |true=>simp only[if_true]at h ⊢;exact⟨ι1,σd,g1,d,g',G1,S1,h,p.mono e1⟩
  |false=>simp only[Bool.false_eq_true,if_false]at h ⊢;cases h;exact p H1 ι1 _ e1 G1 (by simp[Rel]))
theorem Cg (ha:DE X a fa)(hb:DE X (.BoolOp .Or (b::rest) pos) fb):DE X (.BoolOp .Or (a::b::rest) pos) (AS fa fb):=.of (
 PE.imp (Km ha.un hb.un) λσ H Q h=>by
  obtain⟨ι,σd,g,d,g',G0,S0,h,p⟩:=h
  obtain⟨⟨k1,g1⟩,h1,h⟩:=bind_some h
  have h1:=qU h1
  refine tD.bind G0 S0 h1 λH1 ι1 v e1 G1 S1 r1=>⟨k1,by simpa[Rel]using r1,?_⟩
  cases k1 with
  |false=>simp only[Bool.false_eq_true,if_false]at h ⊢;exact⟨ι1,σd,g1,d,g',G1,S1,h,p.mono e1⟩
  |true=>simp only[if_true]at h ⊢;cases h;exact p H1 ι1 _ e1 G1 (by simp[Rel]))
noncomputable def AU (ga:FT)(fa fb:FE):FE:=λσ g=>(ga σ g).bind λr=>if r.1=true then fa σ r.2 else fb σ r.2
theorem Hv (hc:DT X c ga)(ha:DE X a fa)(hb:DE X b fb):DE X (.IfExp c a b pos) (AU ga fa fb):=.of (
 PE.imp (Au hc.un ha.un hb.un) λσ H Q h=>by
  obtain⟨ι,σd,g,d,g',G0,S0,h,p⟩:=h
  obtain⟨⟨k1,g1⟩,h1,h⟩:=bind_some h
  refine jL.bind G0 S0 h1 λH1 ι1 e1 G1 S1=>?_
  cases k1 with
  |true=>simp only[if_true]at h ⊢;exact⟨ι1,σd,g1,d,g',G1,S1,h,p.mono e1⟩
  |false=>simp only[Bool.false_eq_true,if_false]at h ⊢;exact⟨ι1,σd,g1,d,g',G1,S1,h,p.mono e1⟩)
noncomputable def af:FA:=λ_ g=>some ([],g)
noncomputable def aa (fa:FE)(fr:FA):FA:=λσ g=>(fa σ g).bind λr=>(fr σ r.2).bind λq=>some (r.1::q.1,q.2)
theorem yp:DA X [] af:=.of (PA.imp mz λσ H Q h=>by
 obtain⟨ι,σd,g,d,g',G0,S0,h,p⟩:=h
 cases h;exact p H ι _ Ext.refl G0 (by simp[ae]))
theorem nT (ha:DE X e fa)(hr:DA X es fr)(hs:starEach (e::es) X.env=(false,eval e X.env)::starEach es X.env:=by rfl):DA X (e::es) (aa fa fr):=.of (
 PA.imp (iF ha.un hr.un hs) λσ H Q h=>by
  obtain⟨ι,σd,g,d,g',G0,S0,h,p⟩:=h
  obtain⟨⟨d1,g1⟩,h1,h⟩:=bind_some h
  obtain⟨⟨d2,g2⟩,h2,h⟩:=bind_some h
  cases h
  refine tD.bind G0 S0 h1 λH1 ι1 v e1 G1 S1 r1=>?_
  refine gi.bind G1 S1 h2 λH2 ι2 u e2 G2 S2 r2=>?_
  refine p H2 ι2 _ (e1.trans e2) G2 ?_
  simp only[ae]
  exact⟨_,_,rfl,Rel.ext e2 _ r1,r2⟩)
noncomputable def aC (n:Nat):Bool:=decide (n<=16777216)
theorem aC.le {n:Nat}(h:aC n=true):n<=sizeLine:=by rw[sizeLine_eq];exact of_decide_eq_true h
noncomputable def aq (ds:List D)(g:G):Option (D×G):=if aC ds.length=true then some (.tup ds,g)else none
noncomputable def cH (ds:List D)(g:G):Option (D×G):=if aC ds.length=true then some (.lst ds,g)else none
noncomputable def mkRef (ds:List D)(g:G):Option (D×G):=if aC ds.length=true then some (.ref g.length,g ++ [ds])else none
theorem AV {K H ι g ds vs d g' Q}(G0:ak K H ι g)(r:ae K H ι ds vs)(h:aq ds g=some (d,g'))(p:eF K H ι d g' Q):vs.length<=sizeLine /\ ∀q,H q=none->Q (.ref q) (upd H q (.tup vs)):=by
 unfold aq at h
 split at h
 . rename_i z
   cases h
   refine⟨by rw[<- r.length];exact aC.le z,λq hq=>p _ _ _ (Ext.lay hq) (G0.lay hq) ?_⟩
   simp only[Rel]
   exact⟨q,vs,rfl,.inl ⟨.inl aR,G0.fresh hq⟩,ae.ext (Ext.lay hq) _ r⟩
 . cases h
theorem AW {K H ι g ds vs d g' Q}(G0:ak K H ι g)(r:ae K H ι ds vs)(h:cH ds g=some (d,g'))(p:eF K H ι d g' Q):vs.length<=sizeLine /\ ∀q,H q=none->Q (.ref q) (upd H q (.lst vs)):=by
 unfold cH at h
 split at h
 . rename_i z
   cases h
   refine⟨by rw[<- r.length];exact aC.le z,λq hq=>p _ _ _ (Ext.lay hq) (G0.lay hq) ?_⟩
   simp only[Rel]
   exact⟨q,vs,rfl,.inl ⟨.inl aR,G0.fresh hq,G0.gK hq⟩,ae.ext (Ext.lay hq) _ r⟩
 . cases h
theorem AX {K H ι g ds vs d g' Q}(G0:ak K H ι g)(r:ae K H ι ds vs)(h:mkRef ds g=some (d,g'))(p:eF K H ι d g' Q):vs.length<=sizeLine /\ ∀q,H q=none->Q (.ref q) (upd H q (.lst vs)):=by
 unfold mkRef at h
 split at h
 . rename_i z
   cases h
   refine⟨by rw[<- r.length];exact aC.le z,λq hq=>p _ _ _ (Ext.push hq) (G0.push hq r) ?_⟩
   simp only[Rel]
   exact⟨q,rfl,cj.new G0.len⟩
 . cases h
noncomputable def aA (m:List D->G->Option (D×G))(fr:FA):FE:=λσ g=>(fr σ g).bind λr=>m r.1 r.2
theorem yq {x1}(h:DA X es fr):DE X (.Tuple es x1 pos) (aA aq fr):=.of (PE.imp (Gw h.un) λσ H Q h=>by
 obtain⟨ι,σd,g,d,g',G0,S0,h,p⟩:=h
 obtain⟨⟨d1,g1⟩,h1,h⟩:=bind_some h
 exact gi.bind G0 S0 h1 λH1 ι1 v e1 G1 S1 r1=>AV G1 r1 h (p.mono e1))
theorem Hw (h:DA X es fr):DE X (.List es pos) (aA cH fr):=.of (PE.imp (xU h.un) λσ H Q h=>by
 obtain⟨ι,σd,g,d,g',G0,S0,h,p⟩:=h
 obtain⟨⟨d1,g1⟩,h1,h⟩:=bind_some h
 exact gi.bind G0 S0 h1 λH1 ι1 v e1 G1 S1 r1=>AW G1 r1 h (p.mono e1))
theorem Hx (h:DA X es fr):DE X (.List es pos) (aA mkRef fr):=.of (PE.imp (xU h.un) λσ H Q h=>by
 obtain⟨ι,σd,g,d,g',G0,S0,h,p⟩:=h
 obtain⟨⟨d1,g1⟩,h1,h⟩:=bind_some h
 exact gi.bind G0 S0 h1 λH1 ι1 v e1 G1 S1 r1=>AX G1 r1 h (p.mono e1))
end
inductive F where
 |nx|rt (d:D)|bk|ct
abbrev FS:=Sg->G->Option (F×Sg×G)
noncomputable def pT (K:KW)(H:Hp)(ι:Ix)(r:F)(bB:Sg)(g':G)(Dn:Ends):Prop :=
 ∀H' ι',Ext H ι H' ι'->ak K H' ι' g'->match r with
  |.nx=>∀σ',bf K H' ι' bB σ'->Dn.nx σ' H'
  |.bk=>∀σ',bf K H' ι' bB σ'->Dn.bk σ' H'
  |.ct=>∀σ',bf K H' ι' bB σ'->Dn.ct σ' H'
  |.rt d=>∀v,Rel K H' ι' d v->Dn.rt v H'
inductive Ci (K:KW)(f:FS)(Dn:Ends)(σ:L2.St)(H:Hp):Prop
 |mk (ι:Ix) (σd:Sg) (g:G) (r:F) (bB:Sg) (g':G) (h0:ak K H ι g) (h1:bf K H ι σd σ) (h2:f σd g=some (r,bB,g')) (h3:pT K H ι r bB g' Dn):Ci K f Dn σ H
structure DS (X:Cx)(st:Stmt)(f:FS):Prop where of ::
 un:PS X st (Ci X.kw f)
structure jN (X:Cx)(lD:List Stmt)(f:FS):Prop where of ::
 un:eM X lD (Ci X.kw f)
theorem PS.imp {X:Cx}{e:Stmt}{t t':TS}(h:PS X e t)(i:∀Dn σ H,t' Dn σ H->t Dn σ H):PS X e t':=λpins s σ H Q I q=>h pins s σ H Q I (i Q σ H q)
theorem eM.imp {X:Cx}{e:List Stmt}{t t':TS}(h:eM X e t)(i:∀Dn σ H,t' Dn σ H->t Dn σ H):eM X e t':=λpins s σ H Q I q=>h pins s σ H Q I (i Q σ H q)
theorem pT.mono {K H ι H1 ι1 r bB g' Dn}(e:Ext H ι H1 ι1)(p:pT K H ι r bB g' Dn):pT K H1 ι1 r bB g' Dn:=λH' ι' e' G'=>p H' ι' (e.trans e') G'
noncomputable def aF:FS:=λσ g=>some (.nx,σ,g)
noncomputable def aj (f1 f2:FS):FS:=λσ g=>(f1 σ g).bind λr=>match r.1 with|.nx=>f2 r.2.1 r.2.2|_=>some r
noncomputable def aH (f:FE):FS:=λσ g=>(f σ g).bind λr=>some (.rt r.1,σ,r.2)
noncomputable def cL (f:FE):FS:=λσ g=>(f σ g).bind λr=>some (.nx,σ,r.2)
noncomputable def a_ (c:FT)(f1 f2:FS):FS:=λσ g=>(c σ g).bind λr=>if r.1=true then f1 σ r.2 else f2 σ r.2
section
variable {X:Cx}{st:Stmt}{rest:List Stmt}{f1 f2:FS}{e:Expr}{fe:FE}{pos:Pos}{gc:FT}
theorem Ed:jN X [] aF:=.of (eM.imp Dz λDn σ H h=>by
 obtain⟨ι,σd,g,r,bB,g',G0,S0,h,p⟩:=h
 cases h
 exact p H ι Ext.refl G0 σ S0)
theorem AY (h1:DS X st f1)(h2:jN X rest f2):jN X (st::rest) (aj f1 f2):=.of (eM.imp (Av h1.un h2.un) λDn σ H h=>by
 obtain⟨ι,σd,g,r,bB,g',G0,S0,h,p⟩:=h
 obtain⟨⟨r1,σ1,g1⟩,h1,h⟩:=bind_some h
 refine⟨ι,σd,g,r1,σ1,g1,G0,S0,h1,λH1 ι1 e1 G1=>?_⟩
 cases r1 with
 |nx=>exact λσ' S1=>⟨ι1,σ1,g1,r,bB,g',G1,S1,h,p.mono e1⟩
 |bk=>cases h;exact p H1 ι1 e1 G1
 |ct=>cases h;exact p H1 ι1 e1 G1
 |rt d=>cases h;exact p H1 ι1 e1 G1)
theorem Ee (h1:DS X st f1):jN X [st] f1:=.of (DB h1.un)
theorem Ef:DS X (.Pass pos) aF:=.of (PS.imp DC λDn σ H h=>by
 obtain⟨ι,σd,g,r,bB,g',G0,S0,h,p⟩:=h
 cases h
 exact p H ι Ext.refl G0 σ S0)
theorem Hy (he:DE X e fe):DS X (.Return (some e) pos) (aH fe):=.of (PS.imp (F6 he.un) λDn σ H h=>by
 obtain⟨ι,σd,g,r,bB,g',G0,S0,h,p⟩:=h
 obtain⟨⟨d1,g1⟩,h1,h⟩:=bind_some h
 cases h
 exact tD.bind G0 S0 h1 λH1 ι1 v e1 G1 S1 r1=>p H1 ι1 e1 G1 v r1)
theorem Eg (he:DE X e fe)(hs:swapsWith e none pos.line X.env=pure false:=by rfl):DS X (.Expr e pos) (cL fe):=.of (PS.imp (DD he.un hs) λDn σ H h=>by
 obtain⟨ι,σd,g,r,bB,g',G0,S0,h,p⟩:=h
 obtain⟨⟨d1,g1⟩,h1,h⟩:=bind_some h
 cases h
 exact tD.bind G0 S0 h1 λH1 ι1 v e1 G1 S1 r1=>p H1 ι1 e1 G1 σ S1)
theorem Hz {x j pos pos'}:DS X (.Expr (.Constant (.str x) j pos) pos') aF:=.of (PS.imp F5 λDn σ H h=>by
 obtain⟨ι,σd,g,r,bB,g',G0,S0,h,p⟩:=h
 cases h
 exact p H ι Ext.refl G0 σ S0)
theorem KQ {c:Expr}{a b:List Stmt}(hc:DT X c gc)(ha:jN X a f1)(hb:jN X b f2):DS X (.If c a b pos) (a_ gc f1 f2):=.of (PS.imp (Ko hc.un ha.un hb.un) λDn σ H h=>by
 obtain⟨ι,σd,g,r,bB,g',G0,S0,h,p⟩:=h
 obtain⟨⟨k,g1⟩,h1,h⟩:=bind_some h
 refine jL.bind G0 S0 h1 λH1 ι1 e1 G1 S1=>?_
 cases k with
 |true=>simp only[if_true]at h ⊢;exact⟨ι1,σd,g1,r,bB,g',G1,S1,h,p.mono e1⟩
 |false=>simp only[Bool.false_eq_true,if_false]at h ⊢;exact⟨ι1,σd,g1,r,bB,g',G1,S1,h,p.mono e1⟩)
abbrev FG:=D->Sg->G->Option (Sg×G)
abbrev lE:=List D->Sg->G->Option (Sg×G)
inductive HA (K:KW)(f:FG)(v:V)(σ:L2.St)(H:Hp)(Q:(L2.St->Hp->Prop)):Prop
 |mk (ι:Ix) (σd:Sg) (g:G) (d:D) (bB:Sg) (g':G) (h0:ak K H ι g) (h1:bf K H ι σd σ) (h2:Rel K H ι d v) (h3:f d σd g=some (bB,g')) (h4:∀H' ι' σ',Ext H ι H' ι'->ak K H' ι' g'->bf K H' ι' bB σ'->Q σ' H'):HA K f v σ H Q
inductive HB (K:KW)(f:lE)(v:List V)(σ:L2.St)(H:Hp)(Q:(L2.St->Hp->Prop)):Prop
 |mk (ι:Ix) (σd:Sg) (g:G) (d:List D) (bB:Sg) (g':G) (h0:ak K H ι g) (h1:bf K H ι σd σ) (h2:ae K H ι d v) (h3:f d σd g=some (bB,g')) (h4:∀H' ι' σ',Ext H ι H' ι'->ak K H' ι' g'->bf K H' ι' bB σ'->Q σ' H'):HB K f v σ H Q
structure DG (X:Cx)(tg:Expr)(f:FG):Prop where of ::
 un:PG X tg (HA X.kw f)
structure yr (X:Cx)(tg:List Expr)(f:lE):Prop where of ::
 un:lx X tg (HB X.kw f)
theorem PG.imp {X:Cx}{e:Expr}{t t':TG}(h:PG X e t)(i:∀v σ H Q,t' v σ H Q->t v σ H Q):PG X e t':=λpins s σ H v u Q I r q=>h pins s σ H v u Q I r (i v σ H Q q)
theorem lx.imp {X:Cx}{e:List Expr}{t t':oG}(h:lx X e t)(i:∀v σ H Q,t' v σ H Q->t v σ H Q):lx X e t':=λpins s σ H v u Q I r q=>h pins s σ H v u Q I r (i v σ H Q q)
noncomputable def gN (i:Nat):FG:=λd σ g=>some (σ.set i (some d),g)
theorem bf.set {K H ι σd σ d v}(S:bf K H ι σd σ)(r:Rel K H ι d v)(i:Nat):bf K H ι (σd.set i (some d)) (σ.set i (some v)):=by
 refine⟨by simp[S.1],λj d' q=>?_⟩
 by_cases e:i=j
 . subst e
   have hi:i < σd.length:=by
    by_cases hi:i < σd.length
    . exact hi
    . rw[List.getElem?_eq_none_iff.mpr (by simpa using hi)]at q;cases q
   rw[List.getElem?_set_self hi]at q
   cases q
   exact⟨v,by rw[List.getElem?_set_self (by rw[<- S.1];exact hi)],r⟩
 . rw[List.getElem?_set_ne e]at q ⊢
   exact S.2 j d' q
theorem uU {i:Nat}{x:Str}(hN:X.N.Nodup)(hi:X.N[i]? = some x)(hx:Loc X.env.scope x)(hf:X.fn x=true\/X.env.scope.names.lookup x=some .local:=by first|exact .inl rfl|exact .inr rfl|assumption):DG X (.Name x pos) (gN i):=.of (
 PG.imp (DF hN hi hx hf) λv σ H Q h=>by
  obtain⟨ι,σd,g,d,bB,g',G0,S0,r,h,p⟩:=h
  cases h
  exact p H ι _ Ext.refl G0 (S0.set r i))
noncomputable def wk:lE:=λds σ g=>match ds with| []=>some (σ,g)|_=>none
noncomputable def qX (t:FG)(u:lE):lE:=λds σ g=>match ds with|d::r=>(t d σ g).bind λq=>u r q.1 q.2| []=>none
theorem Eh:yr X [] wk:=.of (lx.imp DH λv σ H Q h=>by
 obtain⟨ι,σd,g,d,bB,g',G0,S0,r,h,p⟩:=h
 cases d with
 |nil=>cases h;simp only[ae]at r;exact⟨r,p H ι _ Ext.refl G0 S0⟩
 |cons _ _=>cases h)
theorem AZ {e:Expr}{es:List Expr}{t:FG}{u:lE}(h1:DG X e t)(h2:yr X es u)
  (hs:(assignEach (e::es) X.env).map (·.2)=assign e X.env::(assignEach es X.env).map (·.2):=by rfl):yr X (e::es) (qX t u):=.of (lx.imp (Ay h1.un h2.un hs) λv σ H Q h=>by
 obtain⟨ι,σd,g,d,bB,g',G0,S0,r,h,p⟩:=h
 cases d with
 |nil=>cases h
 |cons d ds =>
  simp only[ae]at r
  obtain⟨v0,vr,rfl,r0,rr⟩:=r
  obtain⟨⟨σ1,g1⟩,h1,h⟩:=bind_some h
  exact⟨v0,vr,rfl,ι,σd,g,d,σ1,g1,G0,S0,r0,h1,λH1 ι1 σ' e1 G1 S1=>⟨ι1,σ1,g1,ds,bB,g',G1,S1,ae.ext e1 _ rr,h,λH2 ι2 σ2 e2 G2 S2=>p H2 ι2 σ2 (e1.trans e2) G2 S2⟩⟩)
noncomputable def gT (n:Nat)(t:lE):FG:=λd σ g=>match d with|.tup xs=>if xs.length=n then t xs σ g else none|_=>none
theorem HC {es:List Expr}{k:Nat}{t:lE}{n:Nat}(hc:X.calm=true)(h:yr X es t)
  (hn:(assignEach es X.env).length=n:=by rfl) (cA:(assignEach es X.env).findIdx? (·.1)=none:=by rfl):DG X (.Tuple es k pos) (gT n t):=.of (PG.imp (F7 hc h.un hn cA) λv σ H Q h=>by
 obtain⟨ι,σd,g,d,bB,g',G0,S0,r,h,p⟩:=h
 cases d with
 |tup xs =>
  simp only[Rel]at r
  obtain⟨a,vs,rfl,hq,hr⟩:=r
  simp only[gT]at h
  split at h
  . rename_i z
    exact⟨a,vs,rfl,hq.sq,by rw[<- hr.length];exact z,ι,σd,g,xs,bB,g',G0,S0,hr,h,p⟩
  . cases h
 |_=>cases h)
noncomputable def ax (f:FE)(t:FG):FS:=λσ g=>(f σ g).bind λr=>(t r.1 σ r.2).bind λq=>some (.nx,q.1,q.2)
theorem Ei {K t}{fe:FE}{Dn σ H}(h:Ci K (ax fe t) Dn σ H):Az (tD K fe) (HA K t) Dn σ H:=by
 obtain⟨ι,σd,g,r,bB,g',G0,S0,h,p⟩:=h
 obtain⟨⟨d1,g1⟩,h1,h⟩:=bind_some h
 obtain⟨⟨σ1,g2⟩,h2,h⟩:=bind_some h
 cases h
 exact tD.bind G0 S0 h1 λH1 ι1 v e1 G1 S1 r1=>⟨ι1,σd,g1,d1,σ1,g2,G1,S1,r1,h2,λH2 ι2 σ' e2 G2 S2=>p H2 ι2 (e1.trans e2) G2 σ' S2⟩
theorem qY {tg:Expr}{t:FG}(he:DE X e fe)(hg:DG X tg t)(hs:swapsWithSole [tg] e pos.line X.env=pure false:=by rfl)(hw:swappedStores [tg] e X.env=pure none:=by rfl)
 (h1:(assignEach [tg] X.env).map (·.2)= [assign tg X.env]:=by rfl):DS X (.Assign [tg] e pos) (ax fe t):=.of (PS.imp (F9 he.un hg.un hs hw h1) λDn σ H h=>Ei h)
theorem yt {i:Nat}{x:Str}{pos':Pos}(hN:X.N.Nodup)(hi:X.N[i]? = some x)(hx:Loc X.env.scope x)(he:DE X e fe)(hs:swapsWith e (some (.Name x pos')) pos.line X.env=pure false:=by rfl)(hf:X.fn x=true\/X.env.scope.names.lookup x=some .local:=by first|exact .inl rfl|exact .inr rfl|assumption):
  DS X (.Assign [.Name x pos'] e pos) (ax fe (gN i)):=.of (PS.imp (F_ hN hi hx he.un hs hf) λDn σ H h=>by
 obtain⟨ι,σd,g,r,bB,g',G0,S0,h,p⟩:=h
 obtain⟨⟨d1,g1⟩,h1,h⟩:=bind_some h
 cases h
 exact tD.bind G0 S0 h1 λH1 ι1 v e1 G1 S1 r1=>p H1 ι1 e1 G1 _ (S1.set r1 i))
noncomputable def putD (o i v:D)(g:G):Option G:=match o,i with
 |.ref n,.int k=>match g[n]? with
  |some xs=>match jH xs.length k with
   |some j=>some (g.set n (xs.set j v))
   |none=>none
  |none=>none
 |_,_=>none
end
abbrev FI:=Sg->G->Option (List D×G)
structure gL (H:Hp)(ι:Ix)(H':Hp)(ι':Ix):Prop where
 same:∀a o,H a=some o->a ∉ ι.ix->H' a=some o
 there:∀a,H a≠none->H' a≠none
 more:∃m,ι'.ix=ι.ix++m /\ ∀a∈m,H a=none
 bI:∃hs,ι'.hd=hs++ι.hd /\ ∀b∈hs,H b=none
 j4:∀i,i < ι.ix.length->kb (ι'.kd i)=kb (ι.kd i)
theorem Ext.eG {H ι H1 ι1}(e:Ext H ι H1 ι1):gL H ι H1 ι1:=⟨e.same,e.there,e.more,⟨[],e.bI,λ_ z=>by simp at z⟩,e.j4⟩
theorem gL.old {H ι H1 ι1}(a:gL H ι H1 ι1){c:Addr}{o:HO}(h:H c=some o)(n:c ∉ ι.ix):c ∉ ι1.ix:=λz=>by
 obtain⟨m1,e1,f1⟩:=a.more
 rw[e1]at z
 rcases List.mem_append.mp z with z|z
 . exact n z
 . rw[f1 c z]at h;cases h
theorem gL.HD {H ι H1 ι1}(a:gL H ι H1 ι1){c:Addr}{o:HO}(h:H c=some o)(n:c ∉ ι.hd):c ∉ ι1.hd:=λz=>by
 obtain⟨m1,e1,f1⟩:=a.bI
 rw[e1]at z
 rcases List.mem_append.mp z with z|z
 . rw[f1 c z]at h;cases h
 . exact n z
theorem gL.at {H ι H1 ι1}(a:gL H ι H1 ι1){i:Nat}{c:Addr}{b:Bool}(h:cj ι i c b):cj ι1 i c b:=by
 obtain⟨m1,e1,_⟩:=a.more
 have hl:=(List.getElem?_eq_some_iff.mp h.1).1
 refine⟨?_,by rw[a.j4 i hl];exact h.2⟩
 rw[e1,List.getElem?_append_left hl];exact h.1
theorem hZ.eG {K H ι H1 ι1 a xs}(e:gL H ι H1 ι1)(h:hZ K H ι a xs):hZ K H1 ι1 a xs:=by
 rcases h with⟨h|⟨o,h⟩,n,k⟩|h
 . exact .inl ⟨.inl (e.same _ _ h n),e.old h n,e.HD h k⟩
 . exact .inl ⟨.inr ⟨o,e.same _ _ h n⟩,e.old h n,e.HD h k⟩
 . exact .inr h
theorem iI.eG {K H ι H1 ι1 a xs}(e:gL H ι H1 ι1)(h:iI K H ι a xs):iI K H1 ι1 a xs:=by
 rcases h with⟨h|⟨o,h⟩,n⟩|h
 . exact .inl ⟨.inl (e.same _ _ h n),e.old h n⟩
 . exact .inl ⟨.inr ⟨o,e.same _ _ h n⟩,e.old h n⟩
 . exact .inr h
mutual
theorem Rel.eG {K H ι H1 ι1}(e:gL H ι H1 ι1):∀(d:D) {v:V},Rel K H ι d v->Rel K H1 ι1 d v
 |.ao,v,h=>by simpa[Rel]using h
 |.bl _,v,h=>by simpa[Rel]using h
 |.int _,v,h=>by simpa[Rel]using h
 |.str _,v,h=>by simpa[Rel]using h
 |.tup xs,v,h=>by
  simp only[Rel]at h ⊢
  obtain⟨a,vs,e1,hq,hr⟩:=h
  exact⟨a,vs,e1,hq.eG e,ae.eG e xs hr⟩
 |.lst xs,v,h=>by
  simp only[Rel]at h ⊢
  obtain⟨a,vs,e1,hq,hr⟩:=h
  exact⟨a,vs,e1,hq.eG e,ae.eG e xs hr⟩
 |.bF,v,h=>by
  simp only[Rel]at h ⊢
  obtain⟨a,e1,hq,hr⟩:=h
  exact⟨a,e1,e.same _ _ hq hr,e.old hq hr⟩
 |.ref n,v,h=>by
  simp only[Rel]at h ⊢
  obtain⟨a,e1,hq⟩:=h
  exact⟨a,e1,e.at hq⟩
 |.aI n,v,h=>by
  simp only[Rel]at h ⊢
  obtain⟨a,e1,hq⟩:=h
  exact⟨a,e1,e.at hq⟩
 |.fn x,v,h=>by simpa[Rel]using h
theorem ae.eG {K H ι H1 ι1}(e:gL H ι H1 ι1):∀(ds:List D) {vs:List V},ae K H ι ds vs->ae K H1 ι1 ds vs
 | [],vs,h=>by simpa[ae]using h
 |d::ds,vs,h=>by
  simp only[ae]at h ⊢
  obtain⟨v,vr,e1,hq,hr⟩:=h
  exact⟨v,vr,e1,Rel.eG e d hq,ae.eG e ds hr⟩
end
noncomputable def lU (K:KW)(J:It)(H:Hp)(ι:Ix)(ds:List D):Prop :=
 ∀(i:Nat) H1 ι1 g1,gL H ι H1 ι1->ak K H1 ι1 g1->(ds.length<=i->J.stop i H1) /\ ∀d,ds[i]? = some d->J.go i H1 /\ ∀x H2,J.xI i H1 x H2->Ext H1 ι1 H2 ι1/\ak K H2 ι1 g1/\Rel K H2 ι1 d x
inductive L4 (K:KW)(f:FI)(σ:L2.St)(H:Hp)(R:(It->Hp->Prop)):Prop
 |mk (ι:Ix) (σd:Sg) (g:G) (ds:List D) (g':G) (h0:ak K H ι g) (h1:bf K H ι σd σ) (h2:f σd g=some (ds,g')) (h3:∀H' ι' J,Ext H ι H' ι'->ak K H' ι' g'->lU K J H' ι' ds->R J H'):L4 K f σ H R
structure DI (X:Cx)(tg iter:Expr)(f:FI):Prop where of ::
 un:PI X tg iter (L4 X.kw f)
theorem PI.imp {X:Cx}{tg e:Expr}{t t':TI}(h:PI X tg e t)(i:∀σ H Q,t' σ H Q->t σ H Q):PI X tg e t':=λpins s σ H Q I q=>h pins s σ H Q I (i σ H Q q)
theorem lU.lst {K H ι a vs ds}(hq:hZ K H ι a vs)(hr:ae K H ι ds vs):lU K (B4 K a) H ι ds:=λi H1 ι1 g1 e1 G1 =>
 ⟨λhl=>⟨vs,(hq.eG e1).sq,by rw[<- hr.length];exact hl⟩,λd hd=>by
  obtain⟨v,hv,rv⟩:=(ae.eG e1 _ hr).get hd
  refine⟨⟨vs,v,(hq.eG e1).sq,hv⟩,λx H2 y=>?_⟩
  obtain⟨rfl,y⟩:=y
  have:=y vs (hq.eG e1).sq
  rw[hv]at this;cases this
  exact⟨Ext.refl,G1,rv⟩⟩
theorem lU.NK {K H ι a vs ds}(hq:iI K H ι a vs)(hr:ae K H ι ds vs):lU K (Ge K a) H ι ds:=λi H1 ι1 g1 e1 G1 =>
 ⟨λhl=>⟨vs,(hq.eG e1).sq,by rw[<- hr.length];exact hl⟩,λd hd=>by
  obtain⟨v,hv,rv⟩:=(ae.eG e1 _ hr).get hd
  refine⟨⟨vs,v,(hq.eG e1).sq,hv⟩,λx H2 y=>?_⟩
  obtain⟨rfl,y⟩:=y
  have:=y vs (hq.eG e1).sq
  rw[hv]at this;cases this
  exact⟨Ext.refl,G1,rv⟩⟩
theorem lU.dH {K H ι}{lo:Int}{n:Nat}:lU K (xJ lo n) H ι ((List.range n).map λ(k:Nat)=>D.int (lo+k)):=λi H1 ι1 g1 e1 G1 =>
 ⟨λhl=>(by show n<=i;simpa using hl),λd hd=>by
  have hi:i<n:=by
   have:=(List.getElem?_eq_some_iff.mp hd).1
   simpa using this
  refine⟨hi,λx H2 y=>?_⟩
  obtain⟨rfl,rfl⟩:=y
  have e:d=D.int (lo+i):=by simpa[List.getElem?_map,List.getElem?_range hi]using hd.symm
  subst e
  exact⟨Ext.refl,G1,by simp[Rel]⟩⟩
section
variable {X:Cx}{tg l a b:Expr}{fe:FE}{fr:FA}{pos p:Pos}
noncomputable def pU (f:FE):FI:=λσ g=>(f σ g).bind λr=>match r.1 with|.tup xs=>some (xs,r.2)|_=>none
noncomputable def pV (f:FE):FI:=λσ g=>(f σ g).bind λr=>match r.1 with|.lst xs=>some (xs,r.2)|_=>none
theorem HE (hl:DE X l fe):DI X tg l (pU fe):=.of (PI.imp (Gf hl.un) λσ H Q h=>by
 obtain⟨ι,σd,g,ds,g',G0,S0,h,p⟩:=h
 obtain⟨⟨d1,g1⟩,h1,h⟩:=bind_some h
 cases d1 with
 |tup xs =>
  cases h
  refine tD.bind G0 S0 h1 λH1 ι1 v e1 G1 S1 r1=>?_
  simp only[Rel]at r1
  obtain⟨a,vs,rfl,hq,hr⟩:=r1
  exact⟨a,rfl,⟨vs,hq.sq⟩,p H1 ι1 _ e1 G1 (.NK hq hr)⟩
 |_=>cases h)
theorem HF (hl:DE X l fe):DI X tg l (pV fe):=.of (PI.imp (uw hl.un) λσ H Q h=>by
 obtain⟨ι,σd,g,ds,g',G0,S0,h,p⟩:=h
 obtain⟨⟨d1,g1⟩,h1,h⟩:=bind_some h
 cases d1 with
 |lst xs =>
  cases h
  refine tD.bind G0 S0 h1 λH1 ι1 v e1 G1 S1 r1=>?_
  simp only[Rel]at r1
  obtain⟨a,vs,rfl,hq,hr⟩:=r1
  exact⟨a,rfl,⟨vs,hq.sq⟩,p H1 ι1 _ e1 G1 (.lst hq hr)⟩
 |_=>cases h)
noncomputable def eN (i:Int):Bool:=Nat.ble i.natAbs 4611686018427387903
theorem eN.and {i:Int}(h:eN i=true):-(2 ^ 62)<=i/\i<2 ^ 62:=by
 have:=Nat.le_of_ble_eq_true h
 omega
theorem eN.of {i:Int}(h1:-1000000<=i)(h2:i<=1000000):eN i=true:=Nat.ble_eq_true_of_le (by omega)
noncomputable def bP (fr:FA):FI:=λσ g=>(fr σ g).bind λr=>match r.1 with| [.int j]=>if eN j=true then some ((List.range j.toNat).map λ(k:Nat)=>D.int (0+k),r.2)else none|_=>none
noncomputable def L5 (fr:FA):FI:=λσ g=>(fr σ g).bind λr=>match r.1 with| [.int i,.int j]=>if(eN i&&eN j)=true then some ((List.range (j-i).toNat).map λ(k:Nat)=>D.int (i+k),r.2)else none|_=>none
theorem KR (hg:Gl X "range")(hm:X.mg "range" = none)(ha:DA X [a] fr)(hs:starEach [a] X.env = [(false,eval a X.env)]:=by rfl):DI X tg (.Call (.Name "range" p) [a] [] pos) (bP fr):=.of (
 PI.imp (xM hg hm ha.un hs) λσ H Q h=>by
  obtain⟨ι,σd,g,ds,g',G0,S0,h,p⟩:=h
  obtain⟨⟨d1,g1⟩,h1,h⟩:=bind_some h
  refine gi.bind G0 S0 h1 λH1 ι1 v e1 G1 S1 r1=>?_
  dsimp only at h
  split at h
  . rename_i j
    split at h
    . rename_i z
      cases h
      simp only[ae,Rel]at r1
      obtain⟨_,_,rfl,rfl,rfl⟩:=r1
      exact⟨j,rfl,(eN.and z).1,(eN.and z).2,p H1 ι1 _ e1 G1 .dH⟩
    . cases h
  . cases h)
theorem KS (hg:Gl X "range")(hm:X.mg "range" = none)(ha:DA X [a,b] fr)(hs:starEach [a,b] X.env = [(false,eval a X.env),(false,eval b X.env)]:=by rfl)(ux:starEach [b] X.env = [(false,eval b X.env)]:=by rfl):DI X tg (.Call (.Name "range" p) [a,b] [] pos) (L5 fr):=.of (
 PI.imp (xN hg hm ha.un hs ux) λσ H Q h=>by
  obtain⟨ι,σd,g,ds,g',G0,S0,h,p⟩:=h
  obtain⟨⟨d1,g1⟩,h1,h⟩:=bind_some h
  refine gi.bind G0 S0 h1 λH1 ι1 v e1 G1 S1 r1=>?_
  dsimp only at h
  split at h
  . rename_i i j
    split at h
    . rename_i z
      rw[Bool.and_eq_true]at z
      cases h
      simp only[ae,Rel]at r1
      obtain⟨_,_,rfl,rfl,_,_,rfl,rfl,rfl⟩:=r1
      exact⟨i,j,rfl,⟨(eN.and z.1).1,(eN.and z.1).2,(eN.and z.2).1,(eN.and z.2).2⟩,p H1 ι1 _ e1 G1 .dH⟩
    . cases h
  . cases h)
noncomputable def forL (t:FG)(b:FS):List D->FS
 | [],σ,g=>some (.nx,σ,g)
 |d::ds,σ,g=>(t d σ g).bind λq=>(b q.1 q.2).bind λr=>match r.1 with
  |.nx=>forL t b ds r.2.1 r.2.2
  |.ct=>forL t b ds r.2.1 r.2.2
  |.bk=>some (.nx,r.2.1,r.2.2)
  |.rt d=>some (.rt d,r.2.1,r.2.2)
noncomputable def cK (i:FI)(t:FG)(b:FS):FS:=λσ g=>(i σ g).bind λr=>forL t b r.1 σ r.2
end
abbrev Fn:=List D->G->Option (D×G)
noncomputable def j6 (K:KW)(n:Nat)(fn:Fn):Sp:=λvs H Q _=>vs.length=n /\ ∃ι g ds d g',ak K H ι g/\ae K H ι ds vs/\fn ds g=some (d,g')/\eF K H ι d g' Q
mutual
noncomputable def dC (n:Nat):D->Bool
 |.ref k=>decide (k<n)
 |.aI k=>decide (k<n)
 |.tup xs=>bX n xs
 |.lst xs=>bX n xs
 |_=>true
noncomputable def bX (n:Nat):List D->Bool
 | []=>true
 |d::ds=>dC n d&&bX n ds
end
noncomputable def settle (n:Nat)(d:D)(g':G):Option (D×G):=
 if g'.length=n then some (d,g')else
  if(g'.take n).all (bX n)then
   match d with
   |.ref k=>if k<n then some (d,g'.take n)else match g'[k]? with
    |some xs=>if bX n xs then some (.lst xs,g'.take n)else none
    |none=>none
   |d=>if dC n d then some (d,g'.take n)else none
  else none
noncomputable def av (keep:Bool)(nN nP:Nat)(b:FS):Fn:=λds g =>
 if ds.length=nP then(b (ds.map some++List.replicate (nN-nP) none) g).bind λr=>match r.1 with
  |.rt d=>if keep then some (d,r.2.2)else settle g.length d r.2.2
  |.nx=>if keep then some (.ao,r.2.2)else settle g.length .ao r.2.2
  |_=>none
 else none
noncomputable def Ix.cut (ι:Ix)(n:Nat):Ix:=⟨ι.ix.take n,ι.hd,ι.kd⟩
mutual
theorem Rel.cut {K H ι}(n:Nat):∀(d:D) {v:V},dC n d=true->Rel K H ι d v->Rel K H (Ix.cut ι n) d v
 |.ao,v,_,h=>by simpa[Rel]using h
 |.bl _,v,_,h=>by simpa[Rel]using h
 |.int _,v,_,h=>by simpa[Rel]using h
 |.str _,v,_,h=>by simpa[Rel]using h
 |.tup xs,v,z,h=>by
  simp only[Rel]at h ⊢
  obtain⟨a,vs,e1,hq,hr⟩:=h
  refine⟨a,vs,e1,?_,ae.cut n xs z hr⟩
  rcases hq with⟨hq,hn⟩|hq
  . exact .inl ⟨hq,λm=>hn (List.mem_of_mem_take m)⟩
  . exact .inr hq
 |.lst xs,v,z,h=>by
  simp only[Rel]at h ⊢
  obtain⟨a,vs,e1,hq,hr⟩:=h
  refine⟨a,vs,e1,?_,ae.cut n xs z hr⟩
  rcases hq with⟨hq,hn,hh⟩|hq
  . exact .inl ⟨hq,λm=>hn (List.mem_of_mem_take m),hh⟩
  . exact .inr hq
 |.bF,v,_,h=>by
  simp only[Rel]at h ⊢
  obtain⟨a,e1,hq,hr⟩:=h
  exact⟨a,e1,hq,λm=>hr (List.mem_of_mem_take m)⟩
 |.ref k,v,z,h=>by
  simp only[Rel]at h ⊢
  obtain⟨a,e1,hq⟩:=h
  have z':k<n:=of_decide_eq_true z
  exact⟨a,e1,by show(ι.ix.take n)[k]? = some a;rw[List.getElem?_take_of_lt z'];exact hq.1,hq.2⟩
 |.aI k,v,z,h=>by
  simp only[Rel]at h ⊢
  obtain⟨a,e1,hq⟩:=h
  have z':k<n:=of_decide_eq_true z
  exact⟨a,e1,by show(ι.ix.take n)[k]? = some a;rw[List.getElem?_take_of_lt z'];exact hq.1,hq.2⟩
 |.fn x,v,_,h=>by simpa[Rel]using h
theorem ae.cut {K H ι}(n:Nat):∀(ds:List D) {vs:List V},bX n ds=true->ae K H ι ds vs->ae K H (Ix.cut ι n) ds vs
 | [],vs,_,h=>by simpa[ae]using h
 |d::ds,vs,z,h=>by
  simp only[ae]at h ⊢
  simp only[bX,Bool.and_eq_true]at z
  obtain⟨v,vr,e1,hq,hr⟩:=h
  exact⟨v,vr,e1,Rel.cut n d z.1 hq,ae.cut n ds z.2 hr⟩
end
theorem ak.cut {K H ι g}(n:Nat)(h:ak K H ι g)(z:(g.take n).all (bX n)=true):ak K H (Ix.cut ι n) (g.take n):=by
 refine⟨h.nd.sublist (List.take_sublist _ _),by simp[Ix.cut,h.len],λb hb=>⟨λm=>(h.bI b hb).1 (List.mem_of_mem_take m),(h.bI b hb).2⟩,λi xs q=>?_⟩
 have hi:i<n:=by
  have:=(List.getElem?_eq_some_iff.mp q).1
  rw[List.length_take]at this;omega
 rw[List.getElem?_take_of_lt hi]at q
 obtain⟨a,o,vs,h1,h2,ov,h3⟩:=h.at_ i xs q
 refine⟨a,o,vs,(by show(ι.ix.take n)[i]? = some a;rw[List.getElem?_take_of_lt hi];exact h1),h2,ov,ae.cut n xs ?_ h3⟩
 exact List.all_eq_true.mp z xs (List.mem_of_getElem? (i:=i) (by rw[List.getElem?_take_of_lt hi];exact q))
theorem Ext.cut {H ι H' ι' n}(e:Ext H ι H' ι')(hn:ι.ix.length=n):Ext H ι H' (Ix.cut ι' n):=by
 obtain⟨m,e1,f⟩:=e.more
 refine⟨e.same,e.there,⟨[],?_,λ_ z=>by simp at z⟩,e.bI,e.j4⟩
 subst hn
 show ι'.ix.take _=_
 rw[e1];simp
theorem yu {K H ι g H' ι' g' d L6 dd v}(G0:ak K H ι g)(e:Ext H ι H' ι')(G1:ak K H' ι' g')(r:Rel K H' ι' d v)(h:settle g.length d g'=some (dd,L6)):
   ∃iK,Ext H ι H' iK/\ak K H' iK L6/\Rel K H' iK dd v:=by
 unfold settle at h
 split at h
 . cases h;exact⟨ι',e,G1,r⟩
 split at h
 . rename_i z
   refine⟨Ix.cut ι' g.length,e.cut G0.len,?_⟩
   have Gc:=G1.cut g.length z
   split at h
   . rename_i k
     split at h
     . rename_i hk
       cases h
       exact⟨Gc,Rel.cut _ _ (decide_eq_true hk) r⟩
     . rename_i hk
       split at h
       . rename_i xs hx
         split at h
         . rename_i hz
           cases h
           refine⟨Gc,?_⟩
           simp only[Rel]at r ⊢
           obtain⟨a,rfl,ha⟩:=r
           obtain⟨vs,hv,hr⟩:=G1.at hx ha
           refine⟨a,vs,rfl,.inl ⟨.inl hv,λm=>?_,λm=>(G1.bI a m).1 (List.mem_of_getElem? ha.1)⟩,ae.cut _ _ hz hr⟩
           obtain⟨j,hj,ej⟩:=List.mem_iff_getElem.mp (show a∈ι'.ix.take g.length from m)
           have mL:j<g.length:=by rw[List.length_take]at hj;omega
           have uV:j < ι'.ix.length:=by rw[List.length_take]at hj;omega
           rw[List.getElem_take]at ej
           obtain⟨qZ,ek⟩:=List.getElem?_eq_some_iff.mp ha.1
           have:j=k:=(List.getElem_inj G1.nd).mp (ej.trans ek.symm)
           omega
         . cases h
       . cases h
   . split at h
     . rename_i hz
       cases h
       exact⟨Gc,Rel.cut _ _ hz r⟩
     . cases h
 . cases h
section
variable {P:Program}{w:World}{K:KW}{mg:Str->Option Value}{base:Heap}
theorem Ej {k n f fd ps}{fn:Fn}(hn:∀ds g,fn ds g=none):cC P K.w K.fr K.mg base gh k f fd ps (j6 K n fn):=
 ⟨λvs H Q E ⟨_,ι,g,ds,d,g',_,_,h,_⟩=>(by rw[hn]at h;cases h),λA outer s H args us vs Q E _ _ _ _ ⟨_,ι,g,ds,d,g',_,_,h,_⟩=>(by rw[hn]at h;cases h)⟩
theorem wm {K H ι ds vs}{N:List Str}(r:ae K H ι ds vs)(hl:ds.length<=N.length):bf K H ι (ds.map some++List.replicate (N.length-ds.length) none) (L2.start N vs):=by
 have e:=r.length
 refine⟨by unfold L2.start;simp[e],λi d q=>?_⟩
 have hi:i<ds.length:=by
  by_cases hi:i<ds.length
  . exact hi
  . rw[List.getElem?_append_right (by simpa using hi),List.getElem?_replicate]at q
    split at q<;>cases q
 rw[List.getElem?_append_left (by simpa using hi),List.getElem?_map]at q
 cases hd:ds[i]? with
 |none=>rw[hd]at q;cases q
 |some d' =>
  rw[hd]at q;cases q
  obtain⟨v,hv,rv⟩:=r.get hd
  refine⟨v,?_,rv⟩
  unfold L2.start
  rw[List.getElem?_append_left (by rw[List.length_map,<- e];exact hi),List.getElem?_map,hv];rfl
theorem KU {x qual:Str}{st:Stmt}{f:Addr}{fd:FuncData}{N ps:List Str}{k:Nat}{keep:Bool}{b:FS}(F:uC K.fr x qual st f fd)(S:gu N ps (aS st))(hN:ps.length<=N.length)
  (hb:∀(cP:Value) (A:Around) (outer:List Env) (s:Shared) (H:Hp) (E:XK),b9 k (A.deeper (envOfC qual (aS st) s.heap.objs.size f cP)) ->
   jN (jY gh P K.w K.fr K.mg base N qual (aS st) f cP A outer s H E).uu (c5 st) b):cC P K.w K.fr K.mg base gh (k+1) f fd ps (j6 K ps.length (av keep N.length ps.length b)):=by
 refine F.ok S (λvs H Q E h=>h.1) (λcP A outer s H vs Q E hr h=>?_)
 obtain⟨hl,ι,g,ds,d,g',G0,r,h,p⟩:=h
 refine⟨_,(hb cP A outer s H E hr).un,?_⟩
 unfold av at h
 have mD:ds.length=ps.length:=by rw[r.length];exact hl
 rw[if_pos mD]at h
 obtain⟨⟨r1,σ1,g1⟩,h1,h⟩:=bind_some h
 refine⟨ι,_,g,r1,σ1,g1,G0,wm r (by rw[mD];exact hN),by rw[mD];exact h1,λH1 ι1 e1 G1=>?_⟩
 have fin:∀{dd v},Rel K H1 ι1 dd v->(if keep then some (dd,g1)else settle g.length dd g1)=some (d,g')->Q v H1:=fun {dd v} rv hh=>by
  cases keep with
  |true=>simp only[if_true]at hh;cases hh;exact p H1 ι1 v e1 G1 rv
  |false =>
   simp only[Bool.false_eq_true,if_false]at hh
   obtain⟨ι2,e2,G2,r2⟩:=yu G0 e1 G1 rv hh
   exact p H1 ι2 v e2 G2 r2
 cases r1 with
 |rt dd=>exact λv rv=>fin rv h
 |nx=>exact λσ' S'=>fin (v:=.ao) (by simp[Rel]) h
 |bk=>cases h
 |ct=>cases h
end
section
variable {X:Cx}{x:Str}{p pos:Pos}{e:Expr}{es:List Expr}{fr:FA}{k:Nat}{f:Addr}{fd:FuncData}{ps:List Str}{fn:Fn}{n:Nat}
noncomputable def ag (fn:Fn)(fr:FA):FE:=λσ g=>(fr σ g).bind λr=>fn r.1 r.2
theorem q_ {K}{n:Nat}(hn:∀ds g r,fn ds g=some r->ds.length=n){σ:L2.St}{H:Hp}{Q:VK}(h:tD K (ag fn fr) σ H Q):vV (j6 K n fn) [] E0 (gi K fr) σ H Q:=by
 obtain⟨ι,σd,g,d,g',G0,S0,h,p⟩:=h
 obtain⟨⟨ds,g1⟩,h1,h⟩:=bind_some h
 refine gi.bind G0 S0 h1 λH1 ι1 vs e1 G1 S1 r1=>?_
 rw[List.append_nil]
 exact⟨by rw[<- r1.length];exact hn _ _ _ h,ι1,g1,ds,d,g',G1,r1,h,p.mono e1⟩
theorem Ek (F:cC X.prog X.w X.kw X.mg X.base gh k f fd ps (j6 X.kw n fn))(hr:b9 k X.A)(hm:X.mg x=some (.ref f))(hk:PySem.W.keepIn X.kw (.ref f)=true)(hb:Binds X.kw fd ps [])(hn:∀ds g r,fn ds g=some r->ds.length=n)
  (ha:DA X (e::es) fr) (hg:Gl X x:=by rfl) (gG:(x == ("__debug__":Str))=false:=by decide) (he:starEach (e::es) X.env=(false,eval e X.env)::starEach es X.env:=by rfl) (hJ:(backTo pos (starEach es X.env)).any (·.1)=false:=by rfl):
  DE X (.Call (.Name x p) (e::es) [] pos) (ag fn fr):=.of (
 PE.imp (DM F hr hg hm hk hb .nil Cb ha.un gG he hJ) λσ H Q h=>q_ hn h)
theorem A0 (F:cC X.prog X.w X.kw X.mg X.base gh k f fd ps (j6 X.kw n fn))(hr:b9 k X.A)(hm:X.mg x=some (.ref f))(hk:PySem.W.keepIn X.kw (.ref f)=true)(hb:Binds X.kw fd ps [])(hn:∀ds g r,fn ds g=some r->ds.length=n)
  (hg:Gl X x:=by rfl) (gG:(x == ("__debug__":Str))=false:=by decide):
  DE X (.Call (.Name x p) [] [] pos) (ag fn af):=.of (
 PE.imp (AF F hr hg hm hk hb .nil Cb gG) λσ H Q h=>by
  have q:=q_ hn h
  obtain⟨ι,σd,g,d,g',G0,S0,h,p⟩:=q
  cases h
  exact p H ι [] Ext.refl G0 (by simp[ae]))
theorem oW {keep:Bool}{nN nP:Nat}{b:FS}:∀ds g r,av keep nN nP b ds g=some r->ds.length=nP:=λds g r h=>by
 unfold av at h
 split at h
 . assumption
 . cases h
theorem A1 {id:String}{o:Fn}(hc:bS X (.builtin id) (h_ X.kw o))(hm:X.mg x=none)(hv:bootBuiltins x=some (.builtin id))(ha:DA X (e::es) fr)(hg:Gl X x:=by rfl)(hn:x ≠ "__name__":=by decide)(gG:(x == ("__debug__":Str))=false:=by decide)
  (he:starEach (e::es) X.env=(false,eval e X.env)::starEach es X.env:=by rfl) (hJ:(backTo pos (starEach es X.env)).any (·.1)=false:=by rfl):DE X (.Call (.Name x p) (e::es) [] pos) (ag o fr):=.of (
 PE.imp (qD hc hg hm hv ha.un hn gG he hJ) λσ H Q h=>by
  obtain⟨ι,σd,g,d,g',G0,S0,h,p⟩:=h
  obtain⟨⟨ds,g1⟩,h1,h⟩:=bind_some h
  exact gi.bind G0 S0 h1 λH1 ι1 vs e1 G1 S1 r1=>⟨ι1,g1,ds,d,g',G1,r1,h,p.mono e1⟩)
theorem yv {T:String}{o:Fn}(hc:bS X (.type T) (h_ X.kw o))(hm:X.mg x=none)(hv:bootBuiltins x=some (.type T))(ha:DA X (e::es) fr)(hg:Gl X x:=by rfl)(hn:x ≠ "__name__":=by decide)(gG:(x == ("__debug__":Str))=false:=by decide)
  (he:starEach (e::es) X.env=(false,eval e X.env)::starEach es X.env:=by rfl) (hJ:(backTo pos (starEach es X.env)).any (·.1)=false:=by rfl):DE X (.Call (.Name x p) (e::es) [] pos) (ag o fr):=.of (
 PE.imp (xZ hc hg hm hv ha.un hn gG he hJ) λσ H Q h=>by
  obtain⟨ι,σd,g,d,g',G0,S0,h,p⟩:=h
  obtain⟨⟨ds,g1⟩,h1,h⟩:=bind_some h
  exact gi.bind G0 S0 h1 λH1 ι1 vs e1 G1 S1 r1=>⟨ι1,g1,ds,d,g',G1,r1,h,p.mono e1⟩)
end
noncomputable def iy (scope:Scope)(env:Env):List (Str×Addr):=(scope.names.filterMap λx=>if x.2 == .free then(env.cells.lookup x.1).map λc=>(x.1,c)else none).reverse
theorem pL {scope:Scope}{env:Env}(h:∀x∈scope.names,x.2 = .free->∃c,env.cells.lookup x.1=some c):closureFor scope env=pure (iy scope env):=by
 have key:∀(l:List (Str×NameKind)) (acc:List (Str×Addr)),(∀x∈l,x.2 = .free->∃c,env.cells.lookup x.1=some c) ->
   (forIn l acc λx r=>if(x.2 == NameKind.free)=true then(do let c <- cellOf env x.1;pure (ForInStep.yield ((x.1,c)::r)))else pure (ForInStep.yield r):Sem (List (Str×Addr)))=
     pure ((l.filterMap λx=>if x.2 == .free then(env.cells.lookup x.1).map λc=>(x.1,c)else none).reverse++acc):=by
  intro l
  induction l with
  |nil=>intro acc _;rfl
  |cons x r ih =>
   intro acc hx
   rw[List.forIn_cons]
   by_cases hk:x.2 = .free
   . obtain⟨c,hc⟩:=hx x List.mem_cons_self hk
     have hb:(x.2 == NameKind.free)=true:=by rw[hk];rfl
     rw[if_pos hb]
     simp only[cellOf,hc,pure_bind,List.filterMap_cons,hb,if_true,Option.map_some,List.reverse_cons,List.append_assoc,List.singleton_append]
     exact ih _ λy hy=>hx y (List.mem_cons_of_mem _ hy)
   . have hb:(x.2 == NameKind.free)=false:=by simpa using hk
     simp only[hb,Bool.false_eq_true,if_false,pure_bind,List.filterMap_cons]
     exact ih _ λy hy=>hx y (List.mem_cons_of_mem _ hy)
 have:=key scope.names [] h
 rw[List.append_nil]at this
 unfold closureFor iy
 simp only[bind_pure_comp]at this ⊢
 first
  | (simpa using this)
  |exact this
noncomputable def cellsOf (scope:Scope)(env:Env)(C:Addr):List (Str×Addr):=cellsFrom (C+1) scope.names (iy scope env)
theorem iL {n:Nat}{y:Str}{k:NameKind}{r:List (Str×NameKind)}{acc:List (Str×Addr)}:cellsFrom n ((y,k)::r) acc=if(k == NameKind.cell)=true then cellsFrom (n+1) r ((y,n)::acc)else cellsFrom n r acc:=rfl
theorem ia {x:Str}{c:Addr}:∀{names:List (Str×NameKind)} {n:Nat} {acc:List (Str×Addr)},(cellsFrom n names acc).lookup x=some c->((x,NameKind.cell)∈names/\n<=c)\/(acc.lookup x=some c/\(x,NameKind.cell) ∉ names)
 | [],_,_,h=>.inr ⟨h,by simp⟩
 | (y,k)::r,n,acc,h=>by
  rw[iL]at h
  split at h
  . rename_i hk
    have hk:k=NameKind.cell:=by simpa using hk
    subst hk
    rcases ia h with⟨h1,h2⟩|⟨h1,h2⟩
    . exact .inl ⟨List.mem_cons_of_mem _ h1,by omega⟩
    . by_cases e:x=y
      . subst e
        rw[List.lookup_cons,show(x == x)=true by simp]at h1
        cases h1
        exact .inl ⟨List.mem_cons_self,Nat.le_refl _⟩
      . rw[List.lookup_cons,show(x == y)=false by simpa using e]at h1
        exact .inr ⟨h1,λz=>by rcases List.mem_cons.mp z with z|z;(cases z;exact e rfl);exact h2 z⟩
  . rename_i hk
    rcases ia h with⟨h1,h2⟩|⟨h1,h2⟩
    . exact .inl ⟨List.mem_cons_of_mem _ h1,h2⟩
    . exact .inr ⟨h1,λz=>by rcases List.mem_cons.mp z with z|z;(cases z;exact hk rfl);exact h2 z⟩
theorem mM {x:Str}{c:Addr}:∀{names:List (Str×NameKind)} {n:Nat} {acc:List (Str×Addr)},(x,NameKind.cell) ∉ names->acc.lookup x=some c->(cellsFrom n names acc).lookup x=some c
 | [],_,_,_,h=>h
 | (y,k)::r,n,acc,hn,h=>by
  have hr:(x,NameKind.cell) ∉ r:=λz=>hn (List.mem_cons_of_mem _ z)
  rw[iL]
  split
  . rename_i hk
    have hk:k=NameKind.cell:=by simpa using hk
    subst hk
    refine mM hr ?_
    have e:x≠y:=λe=>hn (by rw[e];exact List.mem_cons_self)
    rw[List.lookup_cons,show(x == y)=false by simpa using e]
    exact h
  . exact mM hr h
theorem rg {x:Str}:∀{names:List (Str×NameKind)} {n:Nat} {acc:List (Str×Addr)},((x,NameKind.cell)∈names \/ ∃c,acc.lookup x=some c)->∃c,(cellsFrom n names acc).lookup x=some c
 | [],_,_,h=>by rcases h with h|h;(cases h);exact h
 | (y,k)::r,n,acc,h=>by
  rw[iL]
  split
  . rename_i hk
    refine rg ?_
    rcases h with h|⟨c,h⟩
    . rcases List.mem_cons.mp h with z|z
      . cases z;exact .inr ⟨n,by simp⟩
      . exact .inl z
    . right
      rw[List.lookup_cons]
      split
      . exact⟨_,rfl⟩
      . exact⟨c,h⟩
  . rename_i hk
    refine rg ?_
    rcases h with h|h
    . rcases List.mem_cons.mp h with z|z
      . cases z;exact absurd rfl hk
      . exact .inl z
    . exact .inr h
theorem rh:∀{names:List (Str×NameKind)} {n:Nat} {acc:List (Str×Addr)},(∀x c,acc.lookup x=some c->c<n)->(∀x y c,acc.lookup x=some c->acc.lookup y=some c->x=y)->∀x y c,(cellsFrom n names acc).lookup x=some c->(cellsFrom n names acc).lookup y=some c->x=y
 | [],_,_,_,hi=>hi
 | (z,k)::r,n,acc,hl,hi=>by
  intro x y c
  rw[iL]
  split
  . refine rh (λx c h=>?_) (λx y c h1 h2=>?_) x y c
    . rw[List.lookup_cons]at h
      split at h
      . cases h;exact Nat.lt_succ_self _
      . exact Nat.lt_succ_of_lt (hl x c h)
    . rw[List.lookup_cons]at h1 h2
      split at h1
      . rename_i e1
        cases h1
        split at h2
        . rename_i e2
          rw[eq_of_beq e1,eq_of_beq e2]
        . exact absurd (hl y _ h2) (Nat.lt_irrefl _)
      . split at h2
        . cases h2;exact absurd (hl x _ h1) (Nat.lt_irrefl _)
        . exact hi x y c h1 h2
  . exact rh hl hi x y c
theorem lV {M:Model}{A:Around}{E:Value->Shared->Prop}:∀(names:List (Str×NameKind)) (acc:List (Str×Addr)) (s:Shared) (Q:List (Str×Addr)->Shared->Prop),
  (∀x c,acc.lookup x=some c->c<s.heap.objs.size) ->
  (∀h',(∀b o,s.heap.get? b=some o->h'.get? b=some o)->(∀x c,(cellsFrom s.heap.objs.size names acc).lookup x=some c->s.heap.objs.size<=c->h'.IsCell c none)->Q (cellsFrom s.heap.objs.size names acc) { s with heap:=h' }) ->
  wpAny M A (forIn names acc λx r=>if(x.2 == NameKind.cell)=true then(do let c <- alloc { cls:=Value.type "cell",data:=Data.cell none };pure (ForInStep.yield ((x.1,c)::r)))else pure (ForInStep.yield r)) Q E s
 | [],acc,s,Q,hl,h=>by
  rw[List.forIn_nil]
  exact wpAny_pure (h s.heap (λ_ _ e=>e) λx c e1 e2=>absurd (hl x c e1) (Nat.not_lt.mpr e2))
 | (y,k)::r,acc,s,Q,hl,h=>by
  rw[List.forIn_cons]
  rw[iL]at h
  dsimp only
  split
  . rename_i hk
    rw[if_pos hk]at h
    refine wpAny_bind (wpAny_bind (wpAny_alloc (wpAny_pure ?_)))
    have sz:(s.heap.push { cls:=Value.type "cell",data:=Data.cell none }).objs.size=s.heap.objs.size+1:=Heap.size_push ..
    refine lV r _ _ Q (λx c e=>?_) λh' k1 k2=>?_
    . show c<(s.heap.push _).objs.size
      rw[sz]
      rw[List.lookup_cons]at e
      split at e
      . cases e;exact Nat.lt_succ_self _
      . exact Nat.lt_succ_of_lt (hl x c e)
    . have k2:∀x c,(cellsFrom (s.heap.push { cls:=Value.type "cell",data:=Data.cell none }).objs.size r ((y,s.heap.objs.size)::acc)).lookup x=some c->(s.heap.push { cls:=Value.type "cell",data:=Data.cell none }).objs.size<=c->h'.IsCell c none:=k2
      show Q (cellsFrom (s.heap.push { cls:=Value.type "cell",data:=Data.cell none }).objs.size r ((y,s.heap.objs.size)::acc)) _
      rw[sz]at k2 ⊢
      refine h h' (λb o e=>k1 b o (Heap.get?_push_of_some _ e)) λx c e1 e2=>?_
      rcases Nat.lt_or_eq_of_le e2 with e3|e3
      . exact k2 x c e1 e3
      . subst e3
        exact⟨_,k1 _ _ (Heap.get?_push_size _ rfl),rfl⟩
  . rename_i hk
    rw[if_neg hk]at h
    refine wpAny_bind (wpAny_pure ?_)
    exact lV r acc s Q hl h
theorem t_ {M:Model}{A:Around}{E:Value->Shared->Prop}{s:Shared}{scope:Scope}{env:Env}{gl:Addr}{cl:List (Str×Addr)}{qual:Str}{Q:Env->Shared->Prop}(hl:∀x c,cl.lookup x=some c->c<s.heap.objs.size)
   (h:∀h4:Heap,h4.Ns s.heap.objs.size (λ_=>none)->(∀b o,s.heap.get? b=some o->h4.get? b=some o)->(∀x c,(cellsFrom (s.heap.objs.size+1) scope.names cl).lookup x=some c->s.heap.objs.size+1<=c->h4.IsCell c none) ->
    Q (newEnv scope s.heap.objs.size gl (cellsFrom (s.heap.objs.size+1) scope.names cl) qual none Value.none (some env) builtinsNs) { s with heap:=h4 }):
   wpAny M A (newFunctionEnv scope gl cl [] qual none Value.none (some env)) Q E s:=by
 unfold newFunctionEnv
 have sz:∀o:Obj,(s.heap.push o).objs.size=s.heap.objs.size+1:=λo=>Heap.size_push ..
 refine wpAny_bind (wpAny_alloc (wpAny_bind ?_))
 refine lV scope.names cl _ _ (λx c e=>?_) λh' k1 k2=>?_
 . show c<(s.heap.push _).objs.size
   rw[sz];exact Nat.lt_succ_of_lt (hl x c e)
 . refine wpAny_bind ?_
   rw[List.forIn_nil]
   refine wpAny_pure (wpAny_pure ?_)
   have k2:∀x c,(cellsFrom (s.heap.push { cls:=Value.type (if(some env).isSome=true then "dict" else "frame"),data:=Data.dict #[] }).objs.size scope.names cl).lookup x=some c->(s.heap.push { cls:=Value.type (if(some env).isSome=true then "dict" else "frame"),data:=Data.dict #[] }).objs.size<=c->h'.IsCell c none:=k2
   rw[sz]at k2
   have:=h h' ⟨_,_,_,k1 _ _ (Heap.get?_push_size _ rfl),rfl,by intro k hk;simp at hk,λ_=>rfl⟩ (λb o e=>k1 b o (Heap.get?_push_of_some _ e)) k2
   show Q (newEnv scope s.heap.objs.size gl (cellsFrom (s.heap.push { cls:=Value.type (if(some env).isSome=true then "dict" else "frame"),data:=Data.dict #[] }).objs.size scope.names cl) qual none Value.none (some env) builtinsNs) { s with heap:=h' }
   rw[sz]
   exact this
noncomputable def bj (X:Cx)(N:List Str)(scope:Scope)(C:Addr)(s3:Shared)(H:Hp)(fp:List Addr)(pins:List (Addr×Obj)):Cx where
 prog:=X.prog
 w:=X.w
 K:=X.kw
 mg:=X.mg
 base:=X.base
 A:=X.A
 N:=N
 s₀:=s3
 H₀:=H
 env:=compEnvC scope (cellsOf scope X.env C) C X.env
 outer:=X.stack
 stack:=X.stack
 ex:=fp
 calm:=X.calm
 fn:=λx=>scope.names.any λy=>y.1 == x&&y.2 == .cell
 pn:=X.pn++pins
 xe:=λ_ _=>False
structure eH (X:Cx)(N:List Str)(fr:List (Option Nat))(scope:Scope):Prop where
 kind:scope.kind = .function
 cells:∀y∈scope.names,y.2 = .cell->scope.names.lookup y.1=some .cell
 names:∀y∈scope.names,y.2 = .local->scope.names.lookup y.1=some .local
 free:∀y∈scope.names,y.2 = .free->scope.names.lookup y.1=some .free/\(X.env.kindOf y.1=some .cell\/X.env.kindOf y.1=some .free)
 len:fr.length=N.length
 slots:∀(j i:Nat),fr[j]? = some (some i)->∃x,N[j]? = some x/\X.N[i]? = some x/\scope.names.lookup x=some .free
noncomputable def bM {α:Type}(fr:List (Option Nat))(σ:List (Option α)):List (Option α):=fr.map λo=>match o with|some i=>(σ[i]?).join|none=>none
theorem rn {scope:Scope}{env:Env}:(relabel scope env).kind=scope.kind:=rfl
theorem A2 {scope:Scope}{env:Env}{x:Str}{c:Addr}(h:(x,c)∈iy scope env):(x,NameKind.free)∈scope.names/\env.cells.lookup x=some c:=by
 unfold iy at h
 rw[List.mem_reverse,List.mem_filterMap]at h
 obtain⟨y,hy,e⟩:=h
 split at e
 . rename_i hk
   cases hc:env.cells.lookup y.1 with
   |none=>rw[hc]at e;cases e
   |some c' =>
    rw[hc]at e
    cases e
    have:y.2=NameKind.free:=by simpa using hk
    exact⟨by rw[<- this];exact hy,hc⟩
 . cases e
theorem jO {α:Type}:∀{l:List (Str×α)} {x:Str} {c:α},(x,c)∈l->∃d,l.lookup x=some d
 | [],_,_,h=>nomatch h
 | (y,d)::r,x,c,h=>by
  by_cases e:x=y
  . subst e;exact⟨d,by simp⟩
  . rcases List.mem_cons.mp h with z|z
    . cases z;exact absurd rfl e
    . obtain⟨d',q⟩:=jO z
      exact⟨d',by rw[List.lookup_cons];simp[show(x == y)=false by simpa using e,q]⟩
theorem c6 {scope:Scope}{env:Env}{x:Str}{c:Addr}(h:(iy scope env).lookup x=some c):(x,NameKind.free)∈scope.names/\env.cells.lookup x=some c:=A2 (PySem.mem_of_lookup h)
theorem rq {scope:Scope}{env:Env}{x:Str}{c:Addr}(hx:(x,NameKind.free)∈scope.names)(hc:env.cells.lookup x=some c):(iy scope env).lookup x=some c:=by
 have m:(x,c)∈iy scope env:=by
  unfold iy
  rw[List.mem_reverse,List.mem_filterMap]
  exact⟨_,hx,by simp[hc]⟩
 obtain⟨d,q⟩:=jO m
 have:=(c6 q).2
 rw[hc]at this;cases this
 exact q
theorem rA {scope:Scope}{env:Env}{x:Str}(h:(relabel scope env).names.lookup x=some .cell\/(relabel scope env).names.lookup x=some .free):(x,NameKind.free)∈scope.names\/(x,NameKind.cell)∈scope.names:=by
 have m:∃k,(x,k)∈(relabel scope env).names/\(k = .cell\/k = .free):=by
   rcases h with h|h
   . exact⟨_,PySem.mem_of_lookup h,.inl rfl⟩
   . exact⟨_,PySem.mem_of_lookup h,.inr rfl⟩
 obtain⟨k,m,hk⟩:=m
 unfold relabel at m
 rw[List.mem_map]at m
 obtain⟨⟨n,k'⟩,hm,e⟩:=m
 dsimp only at e
 split at e
 . rename_i z
   cases e
   simp only[Bool.and_eq_true]at z
   have:k'=NameKind.free:=by simpa using z.1.1
   subst this
   exact .inl hm
 . cases e
   rcases hk with rfl|rfl
   . exact .inr hm
   . exact .inl hm
theorem eO {env:Env}:∀{names:List (Str×NameKind)} {x:Str},names.lookup x=some .free ->
  (names.map λ(n,k)=>if(k == NameKind.free&&env.scope.kind == .function&&env.kindOf n == some .cell)then(n,NameKind.cell)else(n,k)).lookup x=some .cell \/
  (names.map λ(n,k)=>if(k == NameKind.free&&env.scope.kind == .function&&env.kindOf n == some .cell)then(n,NameKind.cell)else(n,k)).lookup x=some .free
 | [],_,h=>by simp at h
 | (n,k)::r,x,h=>by
  have ih:=@eO env r x
  show List.lookup x ((if(k == NameKind.free&&env.scope.kind == .function&&env.kindOf n == some .cell)=true then(n,NameKind.cell)else(n,k))::_)=_\/List.lookup x ((if(k == NameKind.free&&env.scope.kind == .function&&env.kindOf n == some .cell)=true then(n,NameKind.cell)else(n,k))::_)=_
  cases hx:x == n with
  |true =>
   simp only[List.lookup_cons,hx]at h
   cases h
   split
   . left;simp[List.lookup_cons,hx]
   . right;simp[List.lookup_cons,hx]
  |false =>
   simp only[List.lookup_cons,hx]at h
   split
   . simp only[List.lookup_cons,hx];exact ih h
   . simp only[List.lookup_cons,hx];exact ih h
section
variable {X:Cx}{pins:List (Addr×Obj)}{σ:L2.St}{H:Hp}{s3:Shared}
theorem KY {scope:Scope}(I:Inv X pins σ H s3):∀x c,(iy scope X.env).lookup x=some c->c<s3.heap.objs.size:=λx c e=>by
 obtain⟨v,o,eo,_⟩:=I.cell x c (c6 e).2
 exact Heap.lt_size eo
theorem wo {N:List Str}{fr:List (Option Nat)}{scope:Scope}{fp:List Addr}{h1:Heap}{tk:Nat}(ok:eH X N fr scope)(I:Inv X pins σ H s3)(hf:∀b∈fp,eT X pins H b)(mH:∀b∈fp,b<s3.heap.objs.size)
   (B_:h1.Ns s3.heap.objs.size λ_=>none) (hk:∀b o,s3.heap.get? b=some o->h1.get? b=some o) (eP:∀x c,(cellsOf scope X.env s3.heap.objs.size).lookup x=some c->s3.heap.objs.size+1<=c->h1.IsCell c none):
   Inv (bj X N scope s3.heap.objs.size s3 H fp pins) [] (bM fr σ) H { s3 with heap:=h1,toks:=tk }:=by
 have I1:Inv X pins σ H { s3 with heap:=h1,toks:=tk }:=I.kept hk
 have qp:∀b∈jE X.stack,b∈X.env.locals::X.fs:=I.qv
 have lc:∀x c,(cellsOf scope X.env s3.heap.objs.size).lookup x=some c->(s3.heap.objs.size+1<=c/\h1.IsCell c none)\/X.env.cells.lookup x=some c:=λx c e=>by
   rcases ia e with⟨_,z⟩|⟨z,_⟩
   . exact .inl ⟨z,eP x c e z⟩
   . exact .inr (c6 z).2
 have lo:∀x c,X.env.cells.lookup x=some c->c<s3.heap.objs.size:=λx c e=>by
   obtain⟨v,o,eo,_⟩:=I.cell x c e
   exact Heap.lt_size eo
 have L7:∀y,(y,NameKind.free)∈scope.names->(y,NameKind.cell) ∉ scope.names:=λy h1 h2=>by
   have:=(ok.free _ h1 rfl).1
   rw[show scope.names.lookup y=some .cell from ok.cells _ h2 rfl]at this
   cases this
 refine⟨⟨I.ok.mod,?_,I.ok.glob,I.ok.blt,Nat.le_refl _,?_,?_,?_,I.ok.hd,I.ok.frames,.inl rfl,?_,I.bs,Nat.le_trans I.ok.oD I.sz,?_,?_,I.stack,I.uo⟩,rfl,I.bare,Un.kept hk,
   ⟨_,B_,?_⟩,?_,I.aV.fresh (Nat.le_refl _),?_,?_,I1.aV,?_⟩
 . show(relabel scope X.env).kind = .function
   rw[rn];exact ok.kind
 . refine rh (λx c e=>Nat.lt_succ_of_lt (lo x c (c6 e).2)) λx y c h1 h2=>?_
   exact I.ok.inj x y c (c6 h1).2 (c6 h2).2
 . intro x hx
   rcases rA (scope:=scope) (env:=X.env) hx with m|m
   . obtain⟨c,hc⟩:=I.ok.has x (ok.free _ m rfl).2
     exact⟨c,mM (L7 x m) (rq m hc)⟩
   . exact rg (.inl m)
 . intro x c hx e
   rcases ia e with⟨_,z⟩|⟨_,z⟩
   . exact Nat.le_of_succ_le z
   . refine absurd ?_ z
     have hx:(scope.names.any λy=>y.1 == x&&y.2 == .cell)=true:=hx
     rw[List.any_eq_true]at hx
     obtain⟨⟨y,k⟩,hy,e2⟩:=hx
     simp only[Bool.and_eq_true]at e2
     have e3:k=NameKind.cell:=by simpa using e2.2
     rw[<- eq_of_beq e2.1,<- e3]
     exact hy
 . intro b hb
   refine⟨Nat.ne_of_lt (mH b hb),λx c e=>?_⟩
   rcases lc x c e with⟨z,_⟩|z
   . exact λq=>absurd (mH b hb) (Nat.not_lt.mpr (by rw[<- q];exact Nat.le_of_succ_le z))
   . exact(hf b hb).2.2.2.2.1 x c z
 . intro b o e hb
   obtain⟨_,_,_,z,_⟩:=hf b hb
   rcases z with z|z
   . exact I.ok.qq b o e z
   . exact absurd (Nat.lt_of_lt_of_le (Nat.lt_of_lt_of_le (Heap.lt_size e) I.ok.oD) z) (Nat.lt_irrefl _)
 . intro b hb z
   obtain⟨_,n1,n2,_⟩:=hf b hb
   rcases List.mem_cons.mp (qp b z)with q|q
   . exact n1 q
   . exact n2 q
 . intro j x v h1 h2 h3
   have fR:(bM fr σ)[j]? = some (some v):=h2
   unfold bM at fR
   rw[List.getElem?_map]at fR
   cases d7:fr[j]? with
   |none=>rw[d7]at fR;cases fR
   |some o =>
     rw[d7]at fR
     cases o with
     |none=>cases fR
     |some i =>
       obtain⟨y,hy,hi,mw⟩:=ok.slots j i d7
       have e:x=y:=by
         have uW:N[j]? = some x:=h1
         rw[hy]at uW;cases uW;rfl
       subst e
       have hσ:σ[i]? = some (some v):=by
         simp only[Option.map_some,Option.some.injEq]at fR
         cases q:σ[i]? with
         |none=>rw[q]at fR;cases fR
         |some w=>rw[q]at fR;simp at fR;rw[fR]
       have m:=PySem.mem_of_lookup mw
       obtain⟨_,pQ⟩:=ok.free _ m rfl
       obtain⟨mm,hn,hl⟩:=I1.loc
       obtain⟨u,ru,lk⟩:=hl i x v hi hσ (by rcases pQ with k|k;exact .inr (.inl k);exact .inr (.inr k))
       refine⟨u,ru,.inr ⟨eO mw,?_⟩⟩
       rcases lk with⟨kl,_⟩|⟨_,c,hc,pO⟩
       . rcases pQ with k|k<;>(rw[k]at kl;cases kl)
       . exact⟨c,mM (L7 x m) (rq m hc),pO⟩
 . intro x c e
   rcases lc x c e with⟨_,z⟩|z
   . exact⟨_,z⟩
   . exact I1.cell x c z
 . intro x c e
   rcases lc x c e with⟨z,_⟩|z
   . exact I.aV.fresh (Nat.le_of_succ_le z)
   . exact I.fF x c z
 . intro p hp
   have uR:p∈X.pn++pins:=by
     have q:p∈(X.pn++pins) ++ []:=hp
     simpa using q
   obtain⟨e,n,ne,nf,d⟩:=I1.pin p uR
   refine⟨e,n,Nat.ne_of_lt ?_,λz=>?_,d⟩
   . exact Heap.lt_size (I.pin p uR).1
   . rcases List.mem_cons.mp (qp _ z)with q|q
     . exact ne q
     . exact nf q
 . show(bM fr σ).length=N.length
   unfold bM;rw[List.length_map];exact ok.len
end
noncomputable def cy (t:FG)(c:FT)(e:FE):List D->Sg->G->Option (List D×G)
 | [],_,g=>some ([],g)
 |d::ds,σ,g=>(t d σ g).bind λq=>(c q.1 q.2).bind λk=>if k.1=true then(e q.1 k.2).bind λr=>(cy t c e ds q.1 r.2).bind λz=>some (r.1::z.1,z.2)else cy t c e ds q.1 k.2
noncomputable def NL (X:Cx)(ifs:List Expr)(t:TT):Prop :=
 ∀(pins:List (Addr×Obj)) (s:Shared) (σ:L2.St) (H:Hp) (Q:Bool->Hp->Prop),Inv X pins σ H s->t σ H Q ->
  wpAny (model X.prog X.w) X.A (forIn ifs true λc r=>if r=true then do let ok <- isTrue c X.env (eval c X.env);pure (ForInStep.yield ok)else pure (ForInStep.yield r)) (TP X pins σ Q) X.xe s
structure gM (X:Cx)(ifs:List Expr)(f:FT):Prop where of ::
 un:NL X ifs (jL X.kw f)
noncomputable def bw:FT:=λ_ g=>some (true,g)
theorem A3 {X:Cx}:gM X [] bw:=.of (λpins s σ H Q I h=>by
 obtain⟨ι,σd,g,b,g',G0,S0,h,p⟩:=h
 cases h
 exact wpAny_tests_nil ⟨H,I,p H ι Ext.refl G0⟩)
theorem A4 {X:Cx}{c:Expr}{f:FT}(h:DT X c f):gM X [c] f:=.of (λpins s σ H Q I q=>wpAny_tests_one (h.un pins s σ H Q I q))
theorem Ext.Cj {H1 ι1 H' ιo p H'' iK}(a:Ext H1 ι1 H' ιo)(b:Ext H' (Ix.hide ιo p) H'' iK):Ext H1 ι1 H'' ⟨iK.ix,ιo.hd,iK.kd⟩/\iK=Ix.hide ⟨iK.ix,ιo.hd,iK.kd⟩ p:=by
 have hh:iK.hd=p::ιo.hd:=b.bI
 obtain⟨m1,e1,f1⟩:=a.more
 obtain⟨m2,e2,f2⟩:=b.more
 refine⟨⟨λc o h n=>b.same c o (a.same c o h n) (a.old h n),λc h=>b.there c (a.there c h),⟨m1++m2,?_,λc z=>?_⟩,a.bI,λi hi=>(b.j4 i (show i < ιo.ix.length by rw[e1,List.length_append];omega)).trans (a.j4 i hi)⟩,?_⟩
 . show iK.ix=_
   rw[e2];show ιo.ix++m2=_
   rw[e1,List.append_assoc]
 . rcases List.mem_append.mp z with z|z
   . exact f1 c z
   . cases q:H1 c with
     |none=>rfl
     |some o=>exact absurd (f2 c z) (a.there c (by rw[q];simp))
 . cases iK with
   |mk ix hd kd=>dsimp only at hh;rw[hh];rfl
theorem Ext.Ck {H1 ι1 H' ιo p o}(a:Ext H1 ι1 H' ιo)(hp:H1 p=none):Ext H1 ι1 (upd H' p o) ιo :=
 ⟨λc u h n=>by rw[aL (bh h hp)];exact a.same c u h n,λc h=>by
  by_cases e:c=p
  . subst e;rw[aR];simp
  . rw[aL e];exact a.there c h,a.more,a.bI,a.j4⟩
theorem Ext.NM {H1 ι1 H' ιo p}(a:Ext H1 ι1 H' ιo)(hp:H1 p=none):gL H1 ι1 H' (Ix.hide ιo p):=
 ⟨a.same,a.there,a.more,⟨[p],by show p::ιo.hd=_;rw[a.bI];rfl,λb z=>by simp at z;subst z;exact hp⟩,a.j4⟩
abbrev Sh:=G->Option (List D)
abbrev mN:=Sg->G->Option (Sh×Nat×G)
noncomputable def wq (K:KW)(J:It)(H:Hp)(ι:Ix)(sh:Sh)(L:Nat):Prop :=
 ∀(i:Nat) H1 ι1 g1,gL H ι H1 ι1->ak K H1 ι1 g1->∀xs,sh g1=some xs->xs.length=L->(L<=i->J.stop i H1) /\ ∀d,xs[i]? = some d->J.go i H1 /\ ∀x H2,J.xI i H1 x H2->Ext H1 ι1 H2 ι1/\ak K H2 ι1 g1/\Rel K H2 ι1 d x
inductive HG (K:KW)(f:mN)(σ:L2.St)(H:Hp)(R:(It->Hp->Prop)):Prop
 |mk (ι:Ix) (σd:Sg) (g:G) (sh:Sh) (L:Nat) (g':G) (h0:ak K H ι g) (h1:bf K H ι σd σ) (h2:f σd g=some (sh,L,g')) (h3:∀H' ι' J,Ext H ι H' ι'->ak K H' ι' g'->wq K J H' ι' sh L->R J H'):HG K f σ H R
structure uX (X:Cx)(tg iter:Expr)(f:mN):Prop where of ::
 un:PI X tg iter (HG X.kw f)
noncomputable def b_ (sh:Sh)(L:Nat)(t:FG)(c:FT)(e:FE):Nat->Sg->G->Option (List D×G)
 | 0,_,g=>(sh g).bind λxs=>if xs.length=L then some ([],g)else none
 |r+1,σ,g=>(sh g).bind λxs=>if xs.length=L then(xs[L-(r+1)]?).bind λd=>(t d σ g).bind λq=>(c q.1 q.2).bind λk=>if k.1=true then(e q.1 k.2).bind λr'=>(b_ sh L t c e r q.1 r'.2).bind λz=>some (r'.1::z.1,z.2)else b_ sh L t c e r q.1 k.2 else none
theorem wt {sh:Sh}{L:Nat}{t:FG}{c:FT}{e:FE}{σ:Sg}{g g':G}{all:List D}(h:b_ sh L t c e 0 σ g=some (all,g')):∃xs,sh g=some xs/\xs.length=L/\all = []/\g'=g:=by
 simp only[b_]at h
 obtain⟨xs,hx,h⟩:=bind_some h
 split at h
 . rename_i z
   cases h
   exact⟨xs,hx,z,rfl,rfl⟩
 . cases h
theorem wu {sh:Sh}{L r:Nat}{t:FG}{c:FT}{e:FE}{σ:Sg}{g:G}{o:List D×G}(h:b_ sh L t c e (r+1) σ g=some o):∃xs d,sh g=some xs/\xs.length=L/\xs[L-(r+1)]? = some d/\((t d σ g).bind λq=>(c q.1 q.2).bind λk=>if k.1=true then(e q.1 k.2).bind λr'=>(b_ sh L t c e r q.1 r'.2).bind λz=>some (r'.1::z.1,z.2)else b_ sh L t c e r q.1 k.2)=some o:=by
 simp only[b_]at h
 obtain⟨xs,hx,h⟩:=bind_some h
 split at h
 . rename_i z
   obtain⟨d,hd,h⟩:=bind_some h
   exact⟨xs,d,hx,z,hd,h⟩
 . cases h
inductive CompI (X':Cx)(t:FG)(c:FT)(e:FE)(fp:List Addr)(Dl:Addr)(tn:Nat->Heap->Prop)(sh:Sh)(L:Nat)(all:List D)(H1:Hp)(ι1:Ix)(g':G)(n:Nat)(s:Shared):Prop
 |mk (i:Nat) (σ:L2.St) (H:Hp) (ιo:Ix) (σd:Sg) (g:G) (vs:List V) (acc more:List D) (hn:n=L+1-i) (iM:i<=L) (I:Inv X' [] σ H s) (ti:tn i s.heap) (Cm:∀b∈fp,H b=none) (E1:Ext H1 ι1 H ιo) (G1:ak X'.kw H (Ix.hide ιo Dl) g) (S1:bf X'.kw H (Ix.hide ιo Dl) σd σ)
  (Cn:H Dl=some (.lst vs)) (rB:ae X'.kw H (Ix.hide ιo Dl) acc vs) (QC:acc.length<=i) (hf:b_ sh L t c e (L-i) σd g=some (more,g')) (ea:all=acc++more):CompI X' t c e fp Dl tn sh L all H1 ι1 g' n s
theorem yw {X':Cx}{tg iter elt:Expr}{ifs:List Expr}{scope:Scope}{pos:Pos}{t:FG}{c:FT}{e:FE}{J:It}{fp:List Addr}{it Dl:Addr}{tn:Nat->Heap->Prop}{all:List D}{sh:Sh}{L:Nat}{H1:Hp}{ι1:Ix}{g':G}{R:Result->Shared->Prop}
   (jP:X'.xe=λ_ _=>False) (hc:X'.calm=true) (T:Turn X'.prog X'.w X'.kw tg J fp it tn) (QD:∀b∈fp,eT X' [] X'.H₀ b) (J1:wq X'.kw J H1 ι1 sh L) (hD:H1 Dl=none) (hz:L<=sizeLine)
   (hg:DG X' tg t) (hi:gM X' ifs c) (he:DE X' elt e)
   (fin:∀s' σ' H' ιo vs,Inv X' [] σ' H' s'->(∀b∈fp,H' b=none)->Ext H1 ι1 H' ιo->ak X'.kw H' (Ix.hide ιo Dl) g'->H' Dl=some (.lst vs)->ae X'.kw H' (Ix.hide ιo Dl) all vs->R (.ok .next) s'):
   ∀(s:Shared) (σ:L2.St) (H:Hp) (ιo:Ix) (σd:Sg) (g:G),Inv X' [] σ H s->tn 0 s.heap->(∀b∈fp,H b=none)->Ext H1 ι1 H ιo->ak X'.kw H (Ix.hide ιo Dl) g->bf X'.kw H (Ix.hide ιo Dl) σd σ->H Dl=some (.lst [])->b_ sh L t c e L σd g=some (all,g') ->
    codeAny (model X'.prog X'.w) X'.A (.compLoop (.ListComp elt [⟨tg,iter,ifs,0⟩] scope pos) 0 (.ref it) (.ref Dl) X'.env) R s:=by
 intro s σ H ιo σd g I t0 L8 E0 G0 S0 hH yx
 have lP:∀{H':Hp},(∀b∈fp,H' b=none)->∀b∈fp,eT X' [] H' b:=λhn b hb=>⟨hn b hb,(QD b hb).2⟩
 refine codeAny_loop rfl (CompI X' t c e fp Dl tn sh L all H1 ι1 g') ?_ (L+1)
   ⟨0,σ,H,ιo,σd,g,[],[],all,rfl,Nat.zero_le _,I,t0,L8,E0,G0,S0,hH,by simp[ae],Nat.le_refl _,by simpa using yx,rfl⟩
 clear yx hH S0 G0 E0 L8 t0 I g σd ιo H σ s
 rintro n s ⟨i,σ,H,ιo,σd,g,vs,acc,more,rfl,iM,I,ti,Cm,E1,G1,S1,Cn,rB,QC,hf,rfl⟩
 show wpAny _ X'.A ((compTurn (.ListComp elt [⟨tg,iter,ifs,0⟩] scope pos) 0 (.ref it) (.ref Dl) X'.env).onRaise (λx=>do noteFrame x X'.env;theTreesLotGoes x)) _ _ s
 refine wpAny_noted ?_
 rw[compTurn_list]
 refine wpAny_bind (wpAny_standAt (wpAny_bind ?_))
 have j1:=J1 i H (Ix.hide ιo Dl) g (E1.NM hD) G1
 by_cases aU:i<L
 . rw[show L-i=(L-(i+1))+1 by omega]at hf
   obtain⟨xs,d0,rC,HH,yy,hf⟩:=wu hf
   rw[show L-(L-(i+1)+1)=i by omega]at yy
   obtain⟨st,go⟩:=j1 xs rC HH
   obtain⟨go,yl⟩:=go d0 yy
   refine aT (T.item X' rfl rfl rfl hc i [] s σ H _ I (lP Cm) ti go) λr s4 ⟨u,hr,h4⟩=>?_
   subst hr
   refine wpAny_bind (aT h4 λ_ s5 ⟨x,H5,I5,r5,y5,t5,Gi⟩=>?_)
   obtain⟨e5,G5,QE⟩:=yl x H5 y5
   obtain⟨⟨σ6,g6⟩,h6,hf⟩:=bind_some hf
   obtain⟨⟨k7,g7⟩,h7,hf⟩:=bind_some hf
   have I5':=I5.pinned (lP Gi) (T.obj _ _ t5)
   have lift:∀{α:Type} {tr:Sem α} {Q:α->Shared->Prop} {E:Value->Shared->Prop} {s:Shared},wpAny (model X'.prog X'.w) X'.A tr Q X'.xe s->wpAny (model X'.prog X'.w) X'.A tr Q E s:=λh=>wpAny_mono h (λ_ _ q=>q) λ_ _ z=>by rw[jP]at z;exact z.elim
   have again:∀{s9:Shared} {σ9:L2.St} {H9:Hp} {ι9:Ix} {Co:Sg} {g9:G} {Cp:List V} {acc9:List D} {kE:List D},Inv X' ([]++jW fp s5.heap) σ9 H9 s9->Ext H1 ι1 H9 ι9->ak X'.kw H9 (Ix.hide ι9 Dl) g9->bf X'.kw H9 (Ix.hide ι9 Dl) Co σ9 ->
     H9 Dl=some (.lst Cp)->ae X'.kw H9 (Ix.hide ι9 Dl) acc9 Cp->acc9.length<=i+1->b_ sh L t c e (L-(i+1)) Co g9=some (kE,g')->acc++more=acc9++kE ->
     ∃m,m<L+1-i/\CompI X' t c e fp Dl tn sh L (acc++more) H1 ι1 g' m s9:=by
    intro s9 σ9 H9 ι9 Co g9 Cp acc9 kE I9 E9 G9 S9 h9 r9 l9 f9 a9
    refine⟨L+1-(i+1),by omega,i+1,σ9,H9,ι9,Co,g9,Cp,acc9,kE,rfl,aU,I9.je,T.keep _ _ _ t5 λb hb o e=>(I9.pin (b,o) (List.mem_append_right _ (List.mem_append_right _ (gp hb e)))).1,λb hb=>?_,E9,G9,S9,h9,r9,l9,f9,a9⟩
    obtain⟨o,e,d⟩:=T.obj _ _ t5 b hb
    exact(I9.pin (b,o) (List.mem_append_right _ (List.mem_append_right _ (gp hb e)))).2.1
   refine wpAny_bind (lift (aT (hg.un _ s5 σ H5 x u (λσ' H'=>∃ι6,Ext H5 (Ix.hide ιo Dl) H' ι6/\ak X'.kw H' ι6 g6/\bf X'.kw H' ι6 σ6 σ') I5' r5 ⟨Ix.hide ιo Dl,σd,g,d0,σ6,g6,G5,S1.ext e5,QE,h6,λH6 ι6 Cq e6 G6 S6=>⟨ι6,e6,G6,S6⟩⟩) λ_ s6 q6=>?_))
   obtain⟨Cq,H6,I6,ι6,e6,G6,S6⟩:=q6
   refine wpAny_bind (lift (aT (hi.un _ s6 Cq H6 (λb H'=>b=k7 /\ ∃ι7,Ext H6 ι6 H' ι7/\ak X'.kw H' ι7 g7) I6 ⟨ι6,σ6,g6,k7,g7,G6,S6,h7,λH7 ι7 e7 G7=>⟨rfl,ι7,e7,G7⟩⟩) λok s7 q7=>?_))
   obtain⟨H7,I7,rfl,ι7,e7,G7⟩:=q7
   have Cr:=(e5.trans e6).trans e7
   obtain⟨E7,QF⟩:=E1.Cj Cr
   have QG:H7 Dl=some (.lst vs):=Cr.same Dl _ Cn (G1.bI Dl List.mem_cons_self).1
   have r7:=ae.ext Cr _ rB
   have S7:=S6.ext e7
   cases ok with
   |false =>
    simp only[Bool.false_eq_true,if_false]at hf
    refine wpAny_pure ⟨rfl,?_⟩
    rw[QF]at G7 S7 r7
    exact again I7 E7 G7 S7 QG r7 (by omega) hf rfl
   |true =>
    simp only[if_true]at hf
    obtain⟨⟨d8,g8⟩,h8,hf⟩:=bind_some hf
    obtain⟨⟨kE,g9⟩,h9,hf⟩:=bind_some hf
    obtain⟨rfl,rfl⟩:d8::kE=more/\g9=g':=by cases hf;exact⟨rfl,rfl⟩
    refine wpAny_bind (wpAny_bind (lift (aT (he.un _ s7 Cq H7 (λv H'=>∃ι8,Ext H7 ι7 H' ι8/\ak X'.kw H' ι8 g8/\Rel X'.kw H' ι8 d8 v) I7 ⟨ι7,σ6,g7,d8,g8,G7,S7,h8,λH8 ι8 v e8 G8 r8=>⟨ι8,e8,G8,r8⟩⟩) λy s8 q8=>?_)))
    obtain⟨v8,H8,I8,QH,ι8,e8,G8,r8⟩:=q8
    have HI:=Cr.trans e8
    obtain⟨E8,QI⟩:=E1.Cj HI
    have yz:H8 Dl=some (.lst vs):=HI.same Dl _ Cn (G1.bI Dl List.mem_cons_self).1
    have Cu:=ae.ext HI _ rB
    have S8:=S7.ext e8
    have hlen:vs.length<sizeLine:=by rw[<- rB.length];omega
    rw[QI]at G8 S8 Cu r8
    refine wpAny_bind (lift (aT (oP (X:=X') _ s8 Cq H8 (.ref Dl) [v8] (.ref Dl) [y] (λ_ H'=>H'=upd H8 Dl (.lst (vs ++ [v8]))) I8 rfl (.cons QH .nil) ⟨Dl,vs,v8,rfl,rfl,yz,hlen,rfl⟩) λ_ s9 q9=>?_))
    obtain⟨_,H9,I9,_,rfl⟩:=q9
    refine wpAny_pure (wpAny_pure ⟨rfl,?_⟩)
    refine again (acc9:=acc ++ [d8]) I9 (E8.Ck hD) (G8.grow yz) ⟨S8.1,λj d q=>let⟨v,a,b⟩:=S8.2 j d q;⟨v,a,Rel.grow yz d b⟩⟩ aR ?_ (by simp;omega) h9 (by simp)
    exact ae.append (ae.grow yz _ Cu) (by simp only[ae];exact⟨v8,[],rfl,Rel.grow yz _ r8,rfl⟩)
 . have ei:i=L:=by omega
   subst ei
   rw[Nat.sub_self]at hf
   obtain⟨xs,rC,HH,rfl,rfl⟩:=wt hf
   obtain⟨st,go⟩:=j1 xs rC HH
   refine aT (T.done X' rfl rfl rfl hc _ [] s σ H _ I (lP Cm) ti (st (Nat.le_refl _))) λr s4 ⟨hr,I4⟩=>?_
   subst hr
   exact wpAny_pure (fin s4 σ H ιo vs I4 Cm E1 G1 Cn (by simpa using rB))
noncomputable def bp (mk:List D->G->Option (D×G))(fi:FI)(fr:List (Option Nat))(t:FG)(c:FT)(e:FE):FE:=λσ g=>(fi σ g).bind λr=>if aC r.1.length=true then(cy t c e r.1 (bM fr σ) r.2).bind λq=>mk q.1 q.2 else none
noncomputable def iN (mk:List D->G->Option (D×G))(fi:mN)(fr:List (Option Nat))(t:FG)(c:FT)(e:FE):FE:=λσ g=>(fi σ g).bind λr=>if aC r.2.1=true then(b_ r.1 r.2.1 t c e r.2.1 (bM fr σ) r.2.2).bind λq=>mk q.1 q.2 else none
noncomputable def bA (ds:List D)(g:G):Option (D×G):=some (.lst ds,g)
theorem bf.sub {K H ι σd σ}(fr:List (Option Nat))(h:bf K H ι σd σ):bf K H ι (bM fr σd) (bM fr σ):=by
 refine⟨by simp[bM],λj d q=>?_⟩
 unfold bM at q ⊢
 rw[List.getElem?_map]at q ⊢
 cases hf:fr[j]? with
 |none=>rw[hf]at q;cases q
 |some o =>
  rw[hf]at q
  cases o with
  |none=>cases q
  |some i =>
   have hσ:σd[i]? = some (some d):=by
    simp only[Option.map_some,Option.some.injEq]at q
    cases z:σd[i]? with
    |none=>rw[z]at q;cases q
    |some w=>rw[z]at q;simp at q;rw[q]
   obtain⟨v,hv,rv⟩:=h.2 i d hσ
   exact⟨v,by simp[hv],rv⟩
section
variable {X:Cx}{tg iter elt:Expr}{ifs:List Expr}{scope:Scope}{pos bL:Pos}{N:List Str}{fr:List (Option Nat)}{fi:mN}{t:FG}{c:FT}{e:FE}
theorem oX {pins:List (Addr×Obj)}{s:Shared}{σ:L2.St}{H:Hp}{ι:Ix}{σd:Sg}{g g1 g':G}{all:List D}{sh:Sh}{L:Nat}{use:Option (Value->Sem Unit)}{Q:Value->Shared->Prop}
  (jP:X.xe=λ_ _=>False) (hc:X.calm=true) (ok:eH X N fr scope) (hit:uX X tg iter fi) (de:∀C s3 H fp pins,DG (bj X N scope C s3 H fp pins) tg t/\gM (bj X N scope C s3 H fp pins) ifs c/\DE (bj X N scope C s3 H fp pins) elt e)
  (hs:∀x,foldedSetIterable iter X.env x=pure x) (I:Inv X pins σ H s) (G0:ak X.kw H ι g) (S0:bf X.kw H ι σd σ) (h1:fi σd g=some (sh,L,g1)) (hz:aC L=true) (h2:b_ sh L t c e L (bM fr σd) g1=some (all,g'))
  (fin:∀s' H' ιo vs Dl C,Inv X pins σ H' s'->eT X pins H' C->(∃m,s'.heap.Ns C m)->Ext H ι H' ιo->ak X.kw H' (Ix.hide ιo Dl) g'->H' Dl=some (.lst vs)->ae X.kw H' (Ix.hide ιo Dl) all vs->Dl ∉ ιo.hd->H Dl=none->compPost (model X.prog X.w) X.A X.xe use Q (.ref Dl) C (.ok .next) s'):
  wpAny (model X.prog X.w) X.A (comprehension (.ListComp elt [⟨tg,iter,ifs,0⟩] scope pos) scope X.env bL (newList []) false (eval iter X.env) use) Q X.xe s:=by
 have free:∀x∈scope.names,x.2 = .free->∃c,X.env.cells.lookup x.1=some c:=λx hx hk=>I.ok.has x.1 (ok.free x hx hk).2
 refine wpAny_comprehension_free (use:=use) rfl hs (pL free) ok.kind ok.names (aT (hit.un pins s σ H (λJ H'=>∃ι1,Ext H ι H' ι1/\ak X.kw H' ι1 g1/\wq X.kw J H' ι1 sh L) I ⟨ι,σd,g,sh,L,g1,G0,S0,h1,λH1 ι1 J e1 G1 J1=>⟨ι1,e1,G1,J1⟩⟩) λxv s1 uW=>aT uW λGb s2 q2=>?_)
 obtain⟨it,fp,tn,J,H1,rfl,I1,T,t1,f1,ι1,e1,G1,J1⟩:=q2
 refine wpAny_newObj_type ?_
 have uY:H1 s2.heap.objs.size=none:=I1.aV.fresh (Nat.le_refl _)
 generalize yh:({ s2 with heap:=s2.heap.push { cls:=.type "list",dict:=none,data:=.seq ([]:List Value).toArray } }:Shared)=s3
 have I3:Inv X pins σ (upd H1 s2.heap.objs.size (.lst [])) s3:=by
  rw[<- yh]
  exact I1.laid (t':=s2.toks) (λb u e=>Heap.get?_push_of_some _ e) (Nat.le_refl _) ⟨Nat.zero_le _,[],0,.nil,Heap.get?_push_size _ rfl⟩
 have k3:∀b o,s2.heap.get? b=some o->s3.heap.get? b=some o:=λb o e=>by rw[<- yh];exact Heap.get?_push_of_some _ e
 have L9:s3.heap.objs.size=s2.heap.objs.size+1:=by rw[<- yh];exact Heap.size_push ..
 have mH:∀b∈fp,b<s2.heap.objs.size:=λb hb=>let⟨o,eo,_⟩:=T.obj _ _ t1 b hb;Heap.lt_size eo
 have f3:∀b∈fp,eT X pins (upd H1 s2.heap.objs.size (.lst [])) b:=λb hb=>⟨by rw[aL (Nat.ne_of_lt (mH b hb))];exact(f1 b hb).1,(f1 b hb).2⟩
 refine t_ (KY I3) λh4 NN k4 kc=>?_
 have I4:=wo (tk:=s3.toks) ok I3 f3 (λb hb=>by rw[L9];exact Nat.lt_succ_of_lt (mH b hb)) NN k4 kc
 obtain⟨hg,hi,he⟩:=de s3.heap.objs.size s3 (upd H1 s2.heap.objs.size (.lst [])) fp pins
 have t4:tn 0 h4:=T.keep _ _ _ t1 λb hb o e=>k4 b o (k3 b o e)
 have fx:∀b∈fp,eT (bj X N scope s3.heap.objs.size s3 (upd H1 s2.heap.objs.size (.lst [])) fp pins) [] (upd H1 s2.heap.objs.size (.lst [])) b:=λb hb=>by
  refine⟨(f3 b hb).1,?_,?_,.inl hb,?_,?_⟩
  . exact Nat.ne_of_lt (by rw[L9];exact Nat.lt_succ_of_lt (mH b hb))
  . exact I4.ok.qr b hb
  . exact(I4.ok.FR b hb).2
  . intro p hp
    have uR:p∈X.pn++pins:=by
      have q:p∈(X.pn++pins) ++ []:=hp
      simpa using q
    exact(f1 b hb).2.2.2.2.2 p uR
 have loop:codeAny (model X.prog X.w) X.A (.compLoop (.ListComp elt [⟨tg,iter,ifs,0⟩] scope pos) 0 (.ref it) (.ref s2.heap.objs.size) (compEnvC scope (cellsOf scope X.env s3.heap.objs.size) s3.heap.objs.size X.env))
    (compPost (model X.prog X.w) X.A X.xe use Q (.ref s2.heap.objs.size) s3.heap.objs.size) { s3 with heap:=h4 }:=by
  refine yw (X':=bj X N scope s3.heap.objs.size s3 (upd H1 s2.heap.objs.size (.lst [])) fp pins) (all:=all) (g':=g') rfl hc T fx J1 uY (aC.le hz) hg hi he ?_ _ _ _ ι1 (bM fr σd) g1 I4 t4 (λb hb=>(f3 b hb).1) ((Ext.refl (H:=H1) (ι:=ι1)).Ck uY) (G1.hide uY) ?_ aR h2
  . intro s' σ' H' ιo vs I' Tg E' G' QJ r'
    have I5:Inv X pins σ H' s':=I3.Ki (ch:=fp) I'.os I'.base I'.aV I'.bare λb hb=>⟨(f3 b hb).2.2.2.1,(f3 b hb).2.1,(f3 b hb).2.2.2.2.1,(f3 b hb).2.2.2.2.2⟩
    obtain⟨m,hm,_⟩:=I'.loc
    refine fin s' H' ιo vs _ _ I5 ?_ ⟨m,hm⟩ (e1.trans E') G' QJ r' ?_ ?_
    . have z:=I3.qy (H':=H') (b:=s3.heap.objs.size) (Nat.le_refl _) I'.free
      exact z
    . rw[E'.bI];exact G1.gK uY
    . cases q:H s2.heap.objs.size with
      |none=>rfl
      |some o=>exact absurd uY (e1.there _ (by rw[q];simp))
  . have S1:bf X.kw H1 ι1 (bM fr σd) (bM fr σ):=(S0.ext e1).sub fr
    exact⟨S1.1,λj d q=>let⟨v,a,b⟩:=S1.2 j d q;⟨v,a,Rel.hide uY d b⟩⟩
 exact codeAny_compStart_list loop (T.self _ 0 _ _ _ t4 loop)
theorem rD {H ι H' ιo K g' all vs Dl d gg Q}(e:Ext H ι H' ιo)(G':ak K H' (Ix.hide ιo Dl) g')(hD:H' Dl=some (.lst vs))(r:ae K H' (Ix.hide ιo Dl) all vs)(hn:Dl ∉ ιo.hd)(hm:bA all g'=some (d,gg))(p:eF K H ι d gg Q):Q (.ref Dl) H':=by
 cases hm
 refine p H' ιo _ e G'.show ?_
 simp only[Rel]
 exact⟨Dl,vs,rfl,.inl ⟨.inl hD,(G'.bI Dl List.mem_cons_self).1,hn⟩,ae.show _ r⟩
end
section
variable {X:Cx}{tg iter elt:Expr}{ifs:List Expr}{scope:Scope}{pos bL:Pos}{N:List Str}{fr:List (Option Nat)}{fi:mN}{t:FG}{c:FT}{e:FE}
theorem rE (jP:X.xe=λ_ _=>False)(hc:X.calm=true)(ok:eH X N fr scope)(hit:uX X tg iter fi)(de:∀C s3 H fp pins,DG (bj X N scope C s3 H fp pins) tg t/\gM (bj X N scope C s3 H fp pins) ifs c/\DE (bj X N scope C s3 H fp pins) elt e)
   (hs:∀x,foldedSetIterable iter X.env x=pure x:=by intro _;rfl):DE X (.ListComp elt [⟨tg,iter,ifs,0⟩] scope pos) (iN bA fi fr t c e):=.of (by
 intro pins s σ H Q I h
 obtain⟨ι,σd,g,d,gg,G0,S0,h,p⟩:=h
 obtain⟨⟨sh,L,g1⟩,h1,h⟩:=bind_some h
 dsimp only at h
 split at h
 . rename_i hz
   obtain⟨⟨all,g'⟩,h2,h⟩:=bind_some h
   rw[eval_ListComp]
   refine oX (use:=none) jP hc ok hit de hs I G0 S0 h1 hz h2 λs' H' ιo vs Dl C I' fC ⟨m,hm⟩ e' G' hD r hn yx=>?_
   refine⟨m,hm,λL_ sb=>⟨.ref Dl,H',?_,rfl,rD e' G' hD r hn h p⟩⟩
   obtain⟨f0,f1,f2,f3,f4,f5⟩:=fC
   exact I'.turned (t':=s'.toks) (λb o hb e=>sb.extBut b o hb e) f0 f1 f3 f4 f5
 . cases h)
theorem rF {mk:List D->G->Option (D×G)}{i:Nat}{x:Str}{px rG:Pos}(QK:∀{H ι H' ιo g' all vs Dl d gg Q},Ext H ι H' ιo->H Dl=none->ak X.kw H' (Ix.hide ιo Dl) g'->H' Dl=some (.lst vs)->ae X.kw H' (Ix.hide ιo Dl) all vs->Dl ∉ ιo.hd->mk all g'=some (d,gg)->eF X.kw H ι d gg Q->Q (.ref Dl) H')
   (jP:X.xe=λ_ _=>False) (hc:X.calm=true) (ok:eH X N fr scope) (hit:uX X tg iter fi) (de:∀C s3 H fp pins,DG (bj X N scope C s3 H fp pins) tg t/\gM (bj X N scope C s3 H fp pins) ifs c/\DE (bj X N scope C s3 H fp pins) elt e)
   (hN:X.N.Nodup) (hi:X.N[i]? = some x) (hx:Loc X.env.scope x)
   (rH:swapsWith (.ListComp elt [⟨tg,iter,ifs,0⟩] scope pos) (some (.Name x px)) rG.line X.env=pure true)
   (hs:∀x,foldedSetIterable iter X.env x=pure x) (hf:X.fn x=true\/X.env.scope.names.lookup x=some .local):DS X (.Assign [.Name x px] (.ListComp elt [⟨tg,iter,ifs,0⟩] scope pos) rG) (ax (iN mk fi fr t c e) (gN i)):=.of (by
 intro pins s σ H Dn I h
 obtain⟨ι,σd,g,r,bB,gg,G0,S0,h0,p⟩:=h
 obtain⟨⟨d,QL⟩,uW,hr⟩:=bind_some h0
 have cu:some (F.nx,σd.set i (some d),QL)=some (r,bB,gg):=hr
 clear h0
 obtain⟨⟨sh,L,g1⟩,h1,h3⟩:=bind_some (x:=fi σd g) uW
 dsimp only at h3
 split at h3
 . rename_i hz
   obtain⟨⟨all,g'⟩,h2,h4⟩:=bind_some h3
   rw[exec_Assign_Name_used _ _ _ _ rH]
   refine wpAny_bind (wpAny_standAt (wpAny_bind ?_))
   show wpAny _ X.A (do let _ <- comprehension (.ListComp elt [⟨tg,iter,ifs,0⟩] scope pos) scope X.env _ (newList []) false (eval iter X.env) (some (assign (.Name x px) X.env))) _ _ s
   refine wpAny_bind (wpAny_mono (oX (use:=some (assign (.Name x px) X.env)) (Q:=λ_ s'=>SP X pins Dn .next s') jP hc ok hit de hs I G0 S0 h1 hz h2 λs' H' ιo vs Dl C I' fC ⟨m,hm⟩ e' G' hD r hn yx=>?_) (λ_ s' hq=>wpAny_pure (wpAny_pure hq)) λ_ _ e=>e)
   show wpAny _ X.A (assign (.Name x px) X.env (.ref Dl)) _ _ _
   refine wpAny_assign_Name (oE I' hN hi hx (v:=.ref Dl) rfl (λqA I'' ⟨a,sb,ha⟩=>?_) hf)
   obtain⟨f0,f1,f2,f3,f4,f5⟩:=fC
   have QM:C≠a:=by
    rcases ha with rfl|ha
    . exact f1
    . exact λz=>f4 _ _ ha z.symm
   obtain⟨oc,es,ep,ho,rest⟩:=hm
   refine⟨m,⟨oc,es,ep,(sb.2 C QM).trans ho,rest⟩,λL_ QN=>?_⟩
   refine⟨σ.set i (some (.ref Dl)),H',I''.turned (t':=qA.toks) (λb o hb e=>QN.extBut b o hb e) f0 f1 f3 f4 f5,?_⟩
   cases cu
   exact QK (Q:=λv H'=>Dn.nx (σ.set i (some v)) H') e' yx G' hD r hn h4 λH2 ι2 v e2 G2 r2=>p H2 ι2 e2 G2 _ ((S0.ext e2).set r2 i)
 . cases h3)
end
noncomputable def yA (fi:FI):mN:=λσ g=>(fi σ g).map λr=>(λ_=>some r.1,r.1.length,r.2)
theorem rJ {X:Cx}{tg iter:Expr}{fi:FI}(h:DI X tg iter fi):uX X tg iter (yA fi):=.of (PI.imp h.un λσ H Q q=>by
 obtain⟨ι,σd,g,sh,L,g',G0,S0,h2,p⟩:=q
 obtain⟨⟨ds,g1⟩,h1,e⟩:=Option.map_eq_some_iff.mp h2
 cases e
 exact⟨ι,σd,g,ds,g1,G0,S0,h1,λH' ι' J e1 G1 J1=>p H' ι' J e1 G1 λi H1 ι1 g2 e2 G2 xs hx hl=>by
  cases hx
  exact J1 i H1 ι1 g2 e2 G2⟩)
theorem nU {ds:List D}{t:FG}{c:FT}{e:FE}:∀(k:Nat) (σ:Sg) (g:G),k<=ds.length->b_ (λ_=>some ds) ds.length t c e k σ g=cy t c e (ds.drop (ds.length-k)) σ g
 | 0,σ,g,_=>by simp[b_,cy]
 |k+1,σ,g,h=>by
  have aU:ds.length-(k+1)<ds.length:=by omega
  rw[List.drop_eq_getElem_cons aU,show ds.length-(k+1)+1=ds.length-k by omega]
  simp only[b_,cy,Option.bind_some,if_true,List.getElem?_eq_getElem aU]
  refine congrArg _ (funext λq=>congrArg _ (funext λk1=>?_))
  split
  . refine congrArg _ (funext λr=>?_)
    rw[nU k _ _ (by omega)]
  . rw[nU k _ _ (by omega)]
theorem uZ {mk:List D->G->Option (D×G)}{fi:FI}{fr:List (Option Nat)}{t:FG}{c:FT}{e:FE}:bp mk fi fr t c e=iN mk (yA fi) fr t c e:=by
 funext σ g
 unfold bp iN yA
 cases fi σ g with
 |none=>rfl
 |some r =>
  simp only[Option.bind_some,Option.map_some]
  rw[nU _ _ _ (Nat.le_refl _),Nat.sub_self,List.drop_zero]
section
variable {X:Cx}{tg iter elt:Expr}{ifs:List Expr}{scope:Scope}{pos bL:Pos}{N:List Str}{fr:List (Option Nat)}{fi:FI}{t:FG}{c:FT}{e:FE}
theorem El (jP:X.xe=λ_ _=>False)(hc:X.calm=true)(ok:eH X N fr scope)(hit:DI X tg iter fi)(de:∀C s3 H fp pins,DG (bj X N scope C s3 H fp pins) tg t/\gM (bj X N scope C s3 H fp pins) ifs c/\DE (bj X N scope C s3 H fp pins) elt e)
  (hs:∀x,foldedSetIterable iter X.env x=pure x:=by intro _;rfl):DE X (.ListComp elt [⟨tg,iter,ifs,0⟩] scope pos) (bp bA fi fr t c e):=by
 rw[uZ];exact rE jP hc ok (rJ hit) de hs
theorem wx {i:Nat}{x:Str}{px rG:Pos}(jP:X.xe=λ_ _=>False)(hc:X.calm=true)(ok:eH X N fr scope)(hit:DI X tg iter fi)(de:∀C s3 H fp pins,DG (bj X N scope C s3 H fp pins) tg t/\gM (bj X N scope C s3 H fp pins) ifs c/\DE (bj X N scope C s3 H fp pins) elt e)
  (hN:X.N.Nodup) (hi:X.N[i]? = some x) (hx:Loc X.env.scope x) (rH:swapsWith (.ListComp elt [⟨tg,iter,ifs,0⟩] scope pos) (some (.Name x px)) rG.line X.env=pure true:=by rfl)
  (hs:∀x,foldedSetIterable iter X.env x=pure x:=by intro _;rfl) (hf:X.fn x=true\/X.env.scope.names.lookup x=some .local:=by first|exact .inl rfl|exact .inr rfl|assumption):
  DS X (.Assign [.Name x px] (.ListComp elt [⟨tg,iter,ifs,0⟩] scope pos) rG) (ax (bp bA fi fr t c e) (gN i)):=
 by rw[uZ];exact rF (λe' _ G' hD r hn h4 p=>rD e' G' hD r hn h4 p) jP hc ok (rJ hit) de hN hi hx rH hs hf
end
noncomputable def gq (sh:Sh)(L:Nat)(t:FG)(b:FS):Nat->FS
 | 0,σ,g=>(sh g).bind λxs=>if xs.length=L then some (.nx,σ,g)else none
 |r+1,σ,g=>(sh g).bind λxs=>if xs.length=L then(xs[L-(r+1)]?).bind λd=>(t d σ g).bind λq=>(b q.1 q.2).bind λr'=>match r'.1 with
   |.nx=>gq sh L t b r r'.2.1 r'.2.2
   |.ct=>gq sh L t b r r'.2.1 r'.2.2
   |.bk=>some (.nx,r'.2.1,r'.2.2)
   |.rt d=>some (.rt d,r'.2.1,r'.2.2)
  else none
noncomputable def wy (fi:mN)(t:FG)(b:FS):FS:=λσ g=>(fi σ g).bind λr=>gq r.1 r.2.1 t b r.2.1 σ r.2.2
section
variable {X:Cx}{tg:Expr}{pos:Pos}
inductive A5 (X:Cx)(t:FG)(b:FS)(sh:Sh)(L:Nat)(H1:Hp)(ι1:Ix)(r:F)(bB:Sg)(g':G)(i:Nat)(σ2:L2.St)(H2:Hp):Prop
 |mk (ι2:Ix) (Cv:Sg) (g2:G) (e2:Ext H1 ι1 H2 ι2) (G2:ak X.kw H2 ι2 g2) (S2:bf X.kw H2 ι2 Cv σ2) (hf:gq sh L t b (L-i) Cv g2=some (r,bB,g')):A5 X t b sh L H1 ι1 r bB g' i σ2 H2
theorem Em {iter:Expr}{body:List Stmt}{fi:mN}{t:FG}{b:FS}(hp:PassesOwn (model X.prog X.w) X.A X.env X.xe)(hc:X.calm=true)(hi:uX X tg iter fi)(hg:DG X tg t)(hb:jN X body b)
   (hs:∀x,foldedSetIterable iter X.env x=pure x:=by intro _;rfl):DS X (.For tg iter body [] pos) (wy fi t b):=.of (PS.imp (Gg hp hc hi.un hg.un hb.un hs) λDn σ H h=>by
 obtain⟨ι,σd,g,r,bB,g',G0,S0,h,p⟩:=h
 obtain⟨⟨sh,L,g1⟩,h1,h⟩:=bind_some h
 refine⟨ι,σd,g,sh,L,g1,G0,S0,h1,λH1 ι1 J e1 G1 J1=>?_⟩
 dsimp only at h
 refine⟨λi m σ2 H2=>m=L-i/\i<=L/\A5 X t b sh L H1 ι1 r bB g' i σ2 H2,
   ⟨L,by simp,Nat.zero_le _,ι1,σd,g1,Ext.refl,G1,S0.ext e1,by simpa using h⟩,?_⟩
 rintro i m σ2 H2 ⟨rfl,hi,ι2,Cv,g2,e2,G2,S2,hf⟩
 have j1:=J1 i H2 ι2 g2 e2.eG G2
 by_cases aU:i<L
 . rw[show L-i=(L-(i+1))+1 by omega]at hf
   simp only[gq]at hf
   obtain⟨xs,hx,hf⟩:=bind_some hf
   split at hf
   . rename_i hl
     obtain⟨d0,yy,hf⟩:=bind_some hf
     rw[show L-(L-(i+1)+1)=i by omega]at yy
     obtain⟨⟨σ3,g3⟩,h3,hf⟩:=bind_some hf
     obtain⟨⟨r4,σ4,g4⟩,h4,hf⟩:=bind_some hf
     obtain⟨st,go⟩:=j1 xs hx hl
     obtain⟨go,yl⟩:=go d0 yy
     refine .inr ⟨go,λσ5 H5=>A5 X t b sh L H1 ι1 r bB g' (i+1) σ5 H5,?_,?_⟩
     . rintro σ5 H5 ⟨ι5,QO,g5,e5,G5,S5,h5⟩
       exact⟨L-(i+1),by omega,rfl,aU,ι5,QO,g5,e5,G5,S5,h5⟩
     . intro x H' y
       obtain⟨e3,G3,r3⟩:=yl x H' y
       refine⟨ι2,Cv,g2,d0,σ3,g3,G3,S2.ext e3,r3,h3,λH6 ι6 σ6 e6 G6 S6=>?_⟩
       refine⟨ι6,σ3,g3,r4,σ4,g4,G6,S6,h4,λH7 ι7 e7 G7=>?_⟩
       have wz:=e2.trans (e3.trans (e6.trans e7))
       cases r4 with
       |nx=>exact λσ' S7=>⟨ι7,σ4,g4,wz,G7,S7,hf⟩
       |ct=>exact λσ' S7=>⟨ι7,σ4,g4,wz,G7,S7,hf⟩
       |bk=>cases hf;exact λσ' S7=>p H7 ι7 (e1.trans wz) G7 σ' S7
       |rt d=>cases hf;exact λv r7=>p H7 ι7 (e1.trans wz) G7 v r7
   . cases hf
 . have e:i=L:=by omega
   subst e
   rw[Nat.sub_self]at hf
   simp only[gq]at hf
   obtain⟨xs,hx,hf⟩:=bind_some hf
   split at hf
   . rename_i hl
     cases hf
     obtain⟨st,_⟩:=j1 xs hx hl
     exact .inl ⟨st (Nat.le_refl _),p H2 ι2 (e1.trans e2) G2 σ2 S2⟩
   . cases hf)
end
theorem u5 {ds:List D}{t:FG}{b:FS}:∀(k:Nat) (σ:Sg) (g:G),k<=ds.length->gq (λ_=>some ds) ds.length t b k σ g=forL t b (ds.drop (ds.length-k)) σ g
 | 0,σ,g,_=>by simp[gq,forL]
 |k+1,σ,g,h=>by
  have aU:ds.length-(k+1)<ds.length:=by omega
  rw[List.drop_eq_getElem_cons aU,show ds.length-(k+1)+1=ds.length-k by omega]
  simp only[gq,forL,Option.bind_some,if_true,List.getElem?_eq_getElem aU,u5 k _ _ (Nat.le_of_succ_le h)]<;>rfl
theorem HJ {fi:FI}{t:FG}{b:FS}:cK fi t b=wy (yA fi) t b:=by
 funext σ g
 unfold cK wy yA
 cases fi σ g with
 |none=>rfl
 |some r =>
  simp only[Option.bind_some,Option.map_some]
  rw[u5 _ _ _ (Nat.le_refl _),Nat.sub_self,List.drop_zero]
theorem HK {X:Cx}{tg:Expr}{pos:Pos}{iter:Expr}{body:List Stmt}{fi:FI}{t:FG}{b:FS}(hp:PassesOwn (model X.prog X.w) X.A X.env X.xe)(hc:X.calm=true)(hi:DI X tg iter fi)(hg:DG X tg t)(hb:jN X body b)
  (hs:∀x,foldedSetIterable iter X.env x=pure x:=by intro _;rfl):DS X (.For tg iter body [] pos) (cK fi t b):=by
 rw[HJ];exact Em hp hc (rJ hi) hg hb hs
noncomputable def bQ (c:Int->Int->Bool)(f:Int->Int->Int)(d1 d2:D)(g:G):Option (D×G):=match d1,d2 with
 |.int i,.int j=>if c i j=true then some (.int (f i j),g)else none
 |_,_=>none
noncomputable def mO (f:Int->Int->Bool)(d1 d2:D)(g:G):Option (D×G):=match d1,d2 with
 |.int i,.int j=>some (.bl (f i j),g)
 |_,_=>none
noncomputable def pW (_ _:Int):Bool:=true
noncomputable def cI (i j:Int):Bool:=Nat.ble i.natAbs 18446744073709551615||Nat.ble j.natAbs 18446744073709551615
noncomputable def dw (_ j:Int):Bool:=Nat.ble 1 j.toNat&&Nat.ble j.toNat 1073741823
noncomputable def bT (_ j:Int):Bool:=Nat.ble 1 j.toNat
noncomputable def jm (i j:Int):Bool:=(match j with|.ofNat n=>Nat.ble n 1000000|.negSucc _=>false)&&Nat.ble i.natAbs 18446744073709551615
section
variable {X:Cx}
theorem iO {f:Value->Value->Sem Value}{C:Int->Int->Prop}{c:Int->Int->Bool}{fi:Int->Int->Int}(h:aX X f (rI C λi j=>.int (fi i j)))(hc:∀i j,c i j=true->C i j):aX X f (ck X.kw (bQ c fi)):=by
 intro pins s σ H x y v u Q I rx ry q
 obtain⟨ι,g,d1,d2,d,g',G0,r1,r2,q,p⟩:=q
 cases d1 with
 |int i =>
  cases d2 with
  |int j =>
   simp only[Rel]at r1 r2;subst r1;subst r2
   simp only[bQ]at q
   split at q
   . rename_i z
     cases q
     exact h pins s σ H _ _ v u Q I rx ry ⟨i,j,rfl,rfl,hc i j z,p H ι _ Ext.refl G0 (by simp[Rel])⟩
   . cases q
  |_=>cases q
 |_=>cases q
theorem u6 {g:Int->Int->V}{x y:V}{H:Hp}{Q:VK}(h:rI (λ_ _=>True) g x y H Q):ly g x y H Q:=let⟨i,j,a,b,_,q⟩:=h;⟨i,j,a,b,q⟩
theorem aX.imp {f:Value->Value->Sem Value}{r r':R2}(h:aX X f r)(i:∀x y H Q,r' x y H Q->r x y H Q):aX X f r':=λpins s σ H x y v u Q I rx ry q=>h pins s σ H x y v u Q I rx ry (i _ _ _ _ q)
theorem HL:aX X (binaryOp .Sub) (ck X.kw (bQ pW (· - ·))):=iO (aX.imp Gm λ_ _ _ _=>u6) λ_ _ _=>trivial
theorem En:aX X (binaryOp .Add) (ck X.kw (bQ pW (· + ·))):=iO (aX.imp Gk λ_ _ _ _=>u6) λ_ _ _=>trivial
theorem Eo:aX X (binaryOp .Mult) (ck X.kw (bQ cI (· * ·))):=iO Gn λi j h=>by
 unfold cI at h
 simp only[Bool.or_eq_true]at h
 rcases h with h|h
 . have:=Nat.le_of_ble_eq_true h
   exact .inl ⟨by omega,by omega⟩
 . have:=Nat.le_of_ble_eq_true h
   exact .inr ⟨by omega,by omega⟩
theorem Ep:aX X (binaryOp .FloorDiv) (ck X.kw (bQ dw (· / ·))):=iO DJ λi j h=>by
 unfold dw at h
 simp only[Bool.and_eq_true]at h
 have h1:=Nat.le_of_ble_eq_true h.1
 have h2:=Nat.le_of_ble_eq_true h.2
 exact⟨by omega,by omega⟩
theorem HM:aX X (binaryOp .Mod) (ck X.kw (bQ bT (· % ·))):=iO Gp λi j h=>by
 have h1:=Nat.le_of_ble_eq_true (show Nat.ble 1 j.toNat=true from h)
 show 0<j
 omega
theorem HN:aX X (binaryOp .Pow) (ck X.kw (bQ jm (λi j=>i ^ j.toNat))):=iO Gq λi j h=>by
 unfold jm at h
 simp only[Bool.and_eq_true]at h
 have h2:=Nat.le_of_ble_eq_true h.2
 cases j with
 |ofNat n =>
  have h1:=Nat.le_of_ble_eq_true (show Nat.ble n 1000000=true from h.1)
  exact⟨Int.natCast_nonneg n,(by show((n:Nat):Int)<=1000000;omega),(by omega)⟩
 |negSucc n=>exact absurd h.1 (by simp)
theorem pX {f:Value->Value->Sem Value}{fi:Int->Int->Bool}(h:aX X f (ly λi j=>.bl (fi i j))):aX X f (ck X.kw (mO fi)):=by
 intro pins s σ H x y v u Q I rx ry q
 obtain⟨ι,g,d1,d2,d,g',G0,r1,r2,q,p⟩:=q
 cases d1 with
 |int i =>
  cases d2 with
  |int j =>
   simp only[Rel]at r1 r2;subst r1;subst r2
   cases q
   exact h pins s σ H _ _ v u Q I rx ry ⟨i,j,rfl,rfl,p H ι _ Ext.refl G0 (by simp[Rel])⟩
  |_=>cases q
 |_=>cases q
theorem KZ:aX X (compareOp .Lt) (ck X.kw (mO λi j=>decide (i<j))):=pX Kv
theorem K0:aX X (compareOp .LtE) (ck X.kw (mO λi j=>decide (i<=j))):=pX Kw
theorem K1:aX X (compareOp .Gt) (ck X.kw (mO λi j=>decide (j<i))):=pX Kx
theorem K4:aX X (compareOp .GtE) (ck X.kw (mO λi j=>decide (j<=i))):=pX Ky
noncomputable def eW (d:D)(g:G):Option (D×G):=match d with|.int i=>some (.int (-i),g)|_=>none
theorem HP:xP X (unaryOp .USub) (Hn X.kw eW):=by
 intro pins s σ H x v Q I rx q
 obtain⟨ι,g,d1,d,g',G0,r1,q,p⟩:=q
 cases d1 with
 |int i =>
  simp only[Rel]at r1;subst r1
  cases q
  exact Gr pins s σ H _ v Q I rx ⟨i,rfl,p H ι _ Ext.refl G0 (by simp[Rel])⟩
 |_=>cases q
mutual
noncomputable def flat:D->Bool
 |.ref _=>false
 |.bF=>false
 |.aI _=>false
 |.fn _=>false
 |.tup xs=>az xs
 |.lst xs=>az xs
 |_=>true
noncomputable def az:List D->Bool
 | []=>true
 |d::ds=>flat d&&az ds
end
mutual
noncomputable def au:D->D->Bool
 |.ao,.ao=>true
 |.bl a,.bl b=>a == b
 |.bl a,.int b=>(if a then 1 else 0)== b
 |.int a,.bl b=>a == (if b then 1 else 0)
 |.int a,.int b=>a == b
 |.str a,.str b=>a == b
 |.tup xs,.tup ys=>c9 xs ys
 |.lst xs,.lst ys=>c9 xs ys
 |_,_=>false
noncomputable def c9:List D->List D->Bool
 | [],[]=>true
 |x::xs,y::ys=>au x y&&c9 xs ys
 |_,_=>false
end
mutual
noncomputable def dep:D->Nat
 |.tup xs=>bC xs+1
 |.lst xs=>bC xs+1
 |_=>0
noncomputable def bC:List D->Nat
 | []=>0
 |d::ds=>max (dep d) (bC ds)
end
mutual
theorem gO:∀d:D,flat d=true->au d d=true
 |.ao,_=>by simp[au]
 |.bl _,_=>by simp[au]
 |.int _,_=>by simp[au]
 |.str _,_=>by simp[au]
 |.tup xs,h=>by simp only[au];exact j7 xs h
 |.lst xs,h=>by simp only[au];exact j7 xs h
theorem j7:∀ds:List D,az ds=true->c9 ds ds=true
 | [],_=>by simp[c9]
 |d::ds,h=>by
  simp only[az,Bool.and_eq_true]at h
  simp only[c9,Bool.and_eq_true]
  exact⟨gO d h.1,j7 ds h.2⟩
end
theorem gP:∀xs ys:List D,c9 xs ys=((List.range (min xs.length ys.length)).all (λj=>au (xs[j]?.getD .ao) (ys[j]?.getD .ao))&&xs.length == ys.length)
 | [],[]=>by simp[c9]
 | [],y::ys=>by simp[c9]
 |x::xs,[]=>by simp[c9]
 |x::xs,y::ys=>by
  simp only[c9,gP xs ys,List.length_cons,Nat.succ_min_succ,List.range_succ_eq_map,List.all_cons,List.getElem?_cons_zero,Option.getD_some,List.all_map,Function.comp_def,List.getElem?_cons_succ]
  rw[Bool.and_assoc]
  congr 2
  simp
theorem kF {pins:List (Addr×Obj)}{σ:L2.St}{H:Hp}{s:Shared}{a:Addr}{xs ys:List V}(I:Inv X pins σ H s)(h:da X.kw H a xs)(h':b7 X.kw H a ys):False:=by
 obtain⟨ah,_,ht,_⟩:=I.tuple h
 obtain⟨its',_,hl,_⟩:=I.list h'
 exact SeqAt.ne_of_list_tuple hl.isList ht rfl
mutual
theorem Rel.inj {pins:List (Addr×Obj)}{σ:L2.St}{H:Hp}{s:Shared}{ι:Ix}(I:Inv X pins σ H s):∀(d1 d2:D) {v:V},flat d1=true->flat d2=true->Rel X.kw H ι d1 v->Rel X.kw H ι d2 v->d1=d2
 |.ao,d2,v,_,f2,r1,r2=>by
  simp only[Rel]at r1;subst r1
  cases d2<;>simp_all[Rel,flat]
 |.bl _,d2,v,_,f2,r1,r2=>by
  simp only[Rel]at r1;subst r1
  cases d2<;>simp_all[Rel,flat]
 |.int _,d2,v,_,f2,r1,r2=>by
  simp only[Rel]at r1;subst r1
  cases d2<;>simp_all[Rel,flat]
 |.str _,d2,v,_,f2,r1,r2=>by
  simp only[Rel]at r1;subst r1
  cases d2<;>simp_all[Rel,flat]
 |.tup xs,d2,v,f1,f2,r1,r2=>by
  simp only[Rel]at r1
  obtain⟨a,vs,rfl,hq,hr⟩:=r1
  cases d2 with
  |tup ys =>
   simp only[Rel]at r2
   obtain⟨a',ws,e,bb,cu⟩:=r2
   cases e
   have:=I.oF hq.sq bb.sq
   subst this
   rw[ae.inj I xs ys f1 f2 hr cu]
  |lst ys =>
   simp only[Rel]at r2
   obtain⟨a',ws,e,bb,cu⟩:=r2
   cases e
   exact(kF I hq.sq bb.sq).elim
  |bF=>cases f2
  |ref n=>cases f2
  |aI n=>cases f2
  |fn x=>cases f2
  |_=>simp[Rel]at r2
 |.lst xs,d2,v,f1,f2,r1,r2=>by
  simp only[Rel]at r1
  obtain⟨a,vs,rfl,hq,hr⟩:=r1
  cases d2 with
  |lst ys =>
   simp only[Rel]at r2
   obtain⟨a',ws,e,bb,cu⟩:=r2
   cases e
   have:=I.qx hq.sq bb.sq
   subst this
   rw[ae.inj I xs ys f1 f2 hr cu]
  |tup ys =>
   simp only[Rel]at r2
   obtain⟨a',ws,e,bb,cu⟩:=r2
   cases e
   exact(kF I bb.sq hq.sq).elim
  |bF=>cases f2
  |ref n=>cases f2
  |aI n=>cases f2
  |fn x=>cases f2
  |_=>simp[Rel]at r2
 |.bF,d2,v,f1,_,_,_=>by cases f1
 |.ref _,d2,v,f1,_,_,_=>by cases f1
 |.aI _,d2,v,f1,_,_,_=>by cases f1
 |.fn _,d2,v,f1,_,_,_=>by cases f1
theorem ae.inj {pins:List (Addr×Obj)}{σ:L2.St}{H:Hp}{s:Shared}{ι:Ix}(I:Inv X pins σ H s):∀(ds es:List D) {vs:List V},az ds=true->az es=true->ae X.kw H ι ds vs->ae X.kw H ι es vs->ds=es
 | [],es,vs,_,_,r1,r2=>by
  simp only[ae]at r1;subst r1
  cases es with
  |nil=>rfl
  |cons e es=>simp[ae]at r2
 |d::ds,es,vs,f1,f2,r1,r2=>by
  simp only[ae]at r1
  obtain⟨v,vr,rfl,hv,hr⟩:=r1
  cases es with
  |nil=>simp[ae]at r2
  |cons e es =>
   simp only[ae]at r2
   obtain⟨v',HQ,e1,Cw,cu⟩:=r2
   cases e1
   simp only[az,Bool.and_eq_true]at f1 f2
   rw[Rel.inj I d e f1.1 f2.1 hv Cw,ae.inj I ds es f1.2 f2.2 hr cu]
end
theorem Rel.u7 {K H ι d v b t}(r:Rel K H ι d v)(rv:RelV v (.float b t)):False:=by
 cases d with
 |ao=>simp only[Rel]at r;subst r;cases rv
 |bl _=>simp only[Rel]at r;subst r;cases rv
 |int _=>simp only[Rel]at r;subst r;obtain⟨t,e⟩:=rv;cases e
 |str _=>simp only[Rel]at r;subst r;obtain⟨t,e⟩:=rv;cases e
 |tup _=>simp only[Rel]at r;obtain⟨a,vs,rfl,_⟩:=r;cases rv
 |lst _=>simp only[Rel]at r;obtain⟨a,vs,rfl,_⟩:=r;cases rv
 |bF=>simp only[Rel]at r;obtain⟨a,rfl,_⟩:=r;cases rv
 |ref _=>simp only[Rel]at r;obtain⟨a,rfl,_⟩:=r;cases rv
 |aI _=>simp only[Rel]at r;obtain⟨a,rfl,_⟩:=r;cases rv
 |fn _=>simp only[Rel]at r;obtain⟨a,rfl,_⟩:=r;cases rv
theorem in1_units (A:Around):A.in1.units=A.units+1:=rfl
section
open SeqAt
variable {pins:List (Addr×Obj)}{σ:L2.St}{H:Hp}{s:Shared}{ι:Ix}
theorem mP {A:Around}{s:Shared}{u v:Value}{k:Bool}(h:RcAt A s u v k)(hs:u=v->k=true)(QP:∀b t,u ≠ .float b t):EqAt A s u v k:=λprog w E Q hq=>by
 unfold eqBool
 refine wpAny_holding ?_
 refine wpAny_ite_split (λlF=>?_) (λ_=>?_)
 . rw[hs (eq_of_beq lF)]at hq
   exact wpAny_bind (wpAny_rule (wpAny_pure hq))
 . cases u with
   |float b t=>exact absurd rfl (QP b t)
   |_=>exact wpAny_bind (h prog w E _ (wpAny_truthy_bool hq))
set_option maxHeartbeats 4000000 in
mutual
theorem rK (I:Inv X pins σ H s):∀(d1 d2:D) {A:Around} {x y:V} {u v:Value},flat d1=true->flat d2=true->Rel X.kw H ι d1 x->Rel X.kw H ι d2 y->RelV x u->RelV y v->A.units+dep d1<cLine->RcAt A s u v (au d1 d2)
 |.ao,d2,A,x,y,u,v,_,f2,r1,r2,ru,rv,hu=>by
  simp only[Rel]at r1;subst r1;cases ru
  cases d2 with
  |ao=>simp only[Rel]at r2;subst r2;cases rv;simp only[au];exact .none_none
  |bl b=>simp only[Rel]at r2;subst r2;cases rv;simp only[au];exact .none_bool b
  |int b=>simp only[Rel]at r2;subst r2;obtain⟨t,rfl⟩:=rv;simp only[au];exact .none_int b t
  |str b=>simp only[Rel]at r2;subst r2;obtain⟨t,rfl⟩:=rv;simp only[au];exact .none_str b t
  |tup ys=>simp only[Rel]at r2;obtain⟨a',ws,rfl,hq,hr⟩:=r2;cases rv;obtain⟨ah,_,ht,_⟩:=I.tuple hq.sq;simp only[au];exact .none_tuple ht (by omega)
  |lst ys=>simp only[Rel]at r2;obtain⟨a',ws,rfl,hq,hr⟩:=r2;cases rv;obtain⟨ah,_,ht,_⟩:=I.list hq.sq;simp only[au];exact .none_list ht.isList (by omega)
  |_=>cases f2
 |.bl a,d2,A,x,y,u,v,_,f2,r1,r2,ru,rv,hu=>by
  simp only[Rel]at r1;subst r1;cases ru
  cases d2 with
  |ao=>simp only[Rel]at r2;subst r2;cases rv;simp only[au];exact .bool_none a
  |bl b=>simp only[Rel]at r2;subst r2;cases rv;simp only[au];exact .bool_bool a b
  |int b=>simp only[Rel]at r2;subst r2;obtain⟨t,rfl⟩:=rv;simp only[au];exact .bool_int a b t
  |str b=>simp only[Rel]at r2;subst r2;obtain⟨t,rfl⟩:=rv;simp only[au];exact .bool_str a b t
  |tup ys=>simp only[Rel]at r2;obtain⟨a',ws,rfl,hq,hr⟩:=r2;cases rv;obtain⟨ah,_,ht,_⟩:=I.tuple hq.sq;simp only[au];exact .bool_tuple a ht (by omega)
  |lst ys=>simp only[Rel]at r2;obtain⟨a',ws,rfl,hq,hr⟩:=r2;cases rv;obtain⟨ah,_,ht,_⟩:=I.list hq.sq;simp only[au];exact .bool_list a ht.isList (by omega)
  |_=>cases f2
 |.int a,d2,A,x,y,u,v,_,f2,r1,r2,ru,rv,hu=>by
  simp only[Rel]at r1;subst r1;obtain⟨t0,rfl⟩:=ru
  cases d2 with
  |ao=>simp only[Rel]at r2;subst r2;cases rv;simp only[au];exact .int_none a t0
  |bl b=>simp only[Rel]at r2;subst r2;cases rv;simp only[au];exact .int_bool a t0 b
  |int b=>simp only[Rel]at r2;subst r2;obtain⟨t,rfl⟩:=rv;simp only[au];exact .int_int a t0 b t
  |str b=>simp only[Rel]at r2;subst r2;obtain⟨t,rfl⟩:=rv;simp only[au];exact .int_str a t0 b t
  |tup ys=>simp only[Rel]at r2;obtain⟨a',ws,rfl,hq,hr⟩:=r2;cases rv;obtain⟨ah,_,ht,_⟩:=I.tuple hq.sq;simp only[au];exact .int_tuple a t0 ht (by omega)
  |lst ys=>simp only[Rel]at r2;obtain⟨a',ws,rfl,hq,hr⟩:=r2;cases rv;obtain⟨ah,_,ht,_⟩:=I.list hq.sq;simp only[au];exact .int_list a t0 ht.isList (by omega)
  |_=>cases f2
 |.str a,d2,A,x,y,u,v,_,f2,r1,r2,ru,rv,hu=>by
  simp only[Rel]at r1;subst r1;obtain⟨t0,rfl⟩:=ru
  cases d2 with
  |ao=>simp only[Rel]at r2;subst r2;cases rv;simp only[au];exact .str_none a t0
  |bl b=>simp only[Rel]at r2;subst r2;cases rv;simp only[au];exact .str_bool a t0 b
  |int b=>simp only[Rel]at r2;subst r2;obtain⟨t,rfl⟩:=rv;simp only[au];exact .str_int a t0 b t
  |str b=>simp only[Rel]at r2;subst r2;obtain⟨t,rfl⟩:=rv;simp only[au];exact .str_str a t0 b t
  |tup ys=>simp only[Rel]at r2;obtain⟨a',ws,rfl,hq,hr⟩:=r2;cases rv;obtain⟨ah,_,ht,_⟩:=I.tuple hq.sq;simp only[au];exact .str_tuple a t0 ht (by omega)
  |lst ys=>simp only[Rel]at r2;obtain⟨a',ws,rfl,hq,hr⟩:=r2;cases rv;obtain⟨ah,_,ht,_⟩:=I.list hq.sq;simp only[au];exact .str_list a t0 ht.isList (by omega)
  |_=>cases f2
 |.tup xs,d2,A,x,y,u,v,f1,f2,r1,r2,ru,rv,hu=>by
  simp only[Rel]at r1;obtain⟨a,vs,rfl,hq,hr⟩:=r1;cases ru
  obtain⟨ah,aN,ht,_⟩:=I.tuple hq.sq
  simp only[dep]at hu
  cases d2 with
  |ao=>simp only[Rel]at r2;subst r2;cases rv;simp only[au];exact .tuple_none ht (by omega)
  |bl b=>simp only[Rel]at r2;subst r2;cases rv;simp only[au];exact .tuple_bool b ht (by omega)
  |int b=>simp only[Rel]at r2;subst r2;obtain⟨t,rfl⟩:=rv;simp only[au];exact .tuple_int b t ht (by omega)
  |str b=>simp only[Rel]at r2;subst r2;obtain⟨t,rfl⟩:=rv;simp only[au];exact .tuple_str b t ht (by omega)
  |tup ys =>
   simp only[Rel]at r2;obtain⟨a',ws,rfl,bb,cu⟩:=r2;cases rv
   obtain⟨its',cV,eI,_⟩:=I.tuple bb.sq
   simp only[au,gP]
   have l1:xs.length=ah.toArray.size:=by rw[List.size_toArray,<- aN.length];exact hr.length
   have l2:ys.length=its'.toArray.size:=by rw[List.size_toArray,<- cV.length];exact cu.length
   rw[l1,l2]
   refine .tuples ht eI (by omega) λj h1 h2=>?_
   have:=iP I xs ys (A:=A.in1) f1 f2 hr cu aN cV (by rw[in1_units];omega) j (by simpa using h1) (by simpa using h2)
   simpa using this
  |lst ys =>
   simp only[Rel]at r2;obtain⟨a',ws,rfl,bb,cu⟩:=r2;cases rv
   obtain⟨its',cV,eI,_⟩:=I.list bb.sq
   simp only[au];exact .tuple_list ht eI.isList (by omega)
  |_=>cases f2
 |.lst xs,d2,A,x,y,u,v,f1,f2,r1,r2,ru,rv,hu=>by
  simp only[Rel]at r1;obtain⟨a,vs,rfl,hq,hr⟩:=r1;cases ru
  obtain⟨ah,aN,ht,_⟩:=I.list hq.sq
  simp only[dep]at hu
  cases d2 with
  |ao=>simp only[Rel]at r2;subst r2;cases rv;simp only[au];exact .list_none ht.isList (by omega)
  |bl b=>simp only[Rel]at r2;subst r2;cases rv;simp only[au];exact .list_bool b ht.isList (by omega)
  |int b=>simp only[Rel]at r2;subst r2;obtain⟨t,rfl⟩:=rv;simp only[au];exact .list_int b t ht.isList (by omega)
  |str b=>simp only[Rel]at r2;subst r2;obtain⟨t,rfl⟩:=rv;simp only[au];exact .list_str b t ht.isList (by omega)
  |lst ys =>
   simp only[Rel]at r2;obtain⟨a',ws,rfl,bb,cu⟩:=r2;cases rv
   obtain⟨its',cV,eI,_⟩:=I.list bb.sq
   simp only[au,gP]
   have l1:xs.length=ah.toArray.size:=by rw[List.size_toArray,<- aN.length];exact hr.length
   have l2:ys.length=its'.toArray.size:=by rw[List.size_toArray,<- cV.length];exact cu.length
   rw[l1,l2]
   by_cases hs:ah.toArray.size=its'.toArray.size
   . have e0:(ah.toArray.size == its'.toArray.size)=true:=by simpa using hs
     rw[e0,Bool.and_true,<- hs,Nat.min_self]
     refine .lists ht.isList eI.isList hs (by omega) λj h1 h2=>?_
     have:=iP I xs ys (A:=A.in1) f1 f2 hr cu aN cV (by rw[in1_units];omega) j (by simpa using h1) (by simpa using h2)
     simpa using this
   . have e0:(ah.toArray.size == its'.toArray.size)=false:=by simpa using hs
     rw[e0,Bool.and_false]
     exact .lists_lengths ht.isList eI.isList (by simpa using hs) (by omega)
  |tup ys =>
   simp only[Rel]at r2;obtain⟨a',ws,rfl,bb,cu⟩:=r2;cases rv
   obtain⟨its',cV,eI,_⟩:=I.tuple bb.sq
   simp only[au];exact .list_tuple ht.isList eI (by omega)
  |_=>cases f2
 |.bF,d2,A,x,y,u,v,f1,_,_,_,_,_,_=>by cases f1
 |.ref _,d2,A,x,y,u,v,f1,_,_,_,_,_,_=>by cases f1
 |.aI _,d2,A,x,y,u,v,f1,_,_,_,_,_,_=>by cases f1
 |.fn _,d2,A,x,y,u,v,f1,_,_,_,_,_,_=>by cases f1
theorem iP (I:Inv X pins σ H s):∀(xs ys:List D) {A:Around} {vs ws:List V} {us zs:List Value},az xs=true->az ys=true->ae X.kw H ι xs vs->ae X.kw H ι ys ws->Vals vs us->Vals ws zs->A.units+bC xs<cLine ->
  ∀(j:Nat) (h1:j<us.length) (h2:j<zs.length),EqAt A s us[j] zs[j] (au (xs[j]?.getD .ao) (ys[j]?.getD .ao))
 | [],ys,A,vs,ws,us,zs,_,_,r1,_,ru,_,_,j,h1,_=>by
  simp only[ae]at r1;subst r1;cases ru;simp at h1
 |d::ds,ys,A,vs,ws,us,zs,f1,f2,r1,r2,ru,rz,hu,j,h1,h2=>by
  simp only[ae]at r1
  obtain⟨v,vr,rfl,hv,hr⟩:=r1
  simp only[bC]at hu
  simp only[az,Bool.and_eq_true]at f1
  cases ru with
  |cons gj rL =>
   cases ys with
   |nil=>simp only[ae]at r2;subst r2;cases rz;simp at h2
   |cons e es =>
    simp only[ae]at r2
    obtain⟨w,wr,rfl,hw,yB⟩:=r2
    simp only[az,Bool.and_eq_true]at f2
    cases rz with
    |cons lG yC =>
     cases j with
     |zero =>
      have rc:=rK I d e (A:=A) f1.1 f2.1 hv hw gj lG (by omega)
      simp only[List.getElem_cons_zero,List.getElem?_cons_zero,Option.getD_some]
      refine mP rc (λHR=>?_) (λb t ef=>Rel.u7 hv (by rw[ef]at gj;exact gj))
      subst HR
      have HS:=gj.inj lG
      subst HS
      have HU:=Rel.inj I d e f1.1 f2.1 hv hw
      subst HU
      exact gO d f1.1
     |succ j =>
      have:=iP I ds es (A:=A) f1.2 f2.2 hr yB rL yC (by omega) j (by simpa using h1) (by simpa using h2)
      simpa using this
end
end
noncomputable def oEq (d1 d2:D)(g:G):Option (D×G):=if(flat d1&&flat d2&&decide (dep d1<=60))=true then some (.bl (au d1 d2),g)else none
theorem K8 (hu:X.A.units+64<cLine):aX X (compareOp .Eq) (ck X.kw oEq):=by
 intro pins s σ H x y v u Q I rx ry q
 obtain⟨ι,g,d1,d2,d,g',G0,r1,r2,q,p⟩:=q
 unfold oEq at q
 split at q
 . rename_i z
   simp only[Bool.and_eq_true,decide_eq_true_eq]at z
   cases q
   exact rK I d1 d2 z.1.1 z.1.2 r1 r2 rx ry (by omega) _ _ _ _ ⟨.bl _,H,I,rfl,p H ι _ Ext.refl G0 (by simp[Rel])⟩
 . cases q
noncomputable def jn:D->Bool
 |.ao=>true
 |_=>false
noncomputable def A6 (d1 d2:D)(g:G):Option (D×G):=match d2 with|.ao=>some (.bl (jn d1),g)|_=>none
noncomputable def wA (d1 d2:D)(g:G):Option (D×G):=match d2 with|.ao=>some (.bl (!jn d1),g)|_=>none
theorem u9 {K H ι d v}(r:Rel K H ι d v):decide (v=V.ao)=jn d:=by
 cases d with
 |ao=>simp only[Rel]at r;subst r;rfl
 |bl _=>simp only[Rel]at r;subst r;rfl
 |int _=>simp only[Rel]at r;subst r;rfl
 |str _=>simp only[Rel]at r;subst r;rfl
 |tup _=>simp only[Rel]at r;obtain⟨a,vs,rfl,_⟩:=r;rfl
 |lst _=>simp only[Rel]at r;obtain⟨a,vs,rfl,_⟩:=r;rfl
 |bF=>simp only[Rel]at r;obtain⟨a,rfl,_⟩:=r;rfl
 |ref _=>simp only[Rel]at r;obtain⟨a,rfl,_⟩:=r;rfl
 |aI _=>simp only[Rel]at r;obtain⟨a,rfl,_⟩:=r;rfl
 |fn _=>simp only[Rel]at r;obtain⟨a,rfl,_⟩:=r;rfl
theorem HV:aX X (compareOp .Is) (ck X.kw A6):=by
 intro pins s σ H x y v u Q I rx ry q
 obtain⟨ι,g,d1,d2,d,g',G0,r1,r2,q,p⟩:=q
 cases d2 with
 |ao =>
  simp only[Rel]at r2;subst r2
  simp only[A6]at q
  cases q
  exact Gs pins s σ H _ _ v u Q I rx ry ⟨rfl,by rw[u9 r1];exact p H ι _ Ext.refl G0 (by simp[Rel])⟩
 |_=>cases q
theorem Er:aX X (compareOp .IsNot) (ck X.kw wA):=by
 intro pins s σ H x y v u Q I rx ry q
 obtain⟨ι,g,d1,d2,d,g',G0,r1,r2,q,p⟩:=q
 cases d2 with
 |ao =>
  simp only[Rel]at r2;subst r2
  simp only[wA]at q
  cases q
  refine DL pins s σ H _ _ v u Q I rx ry ⟨rfl,?_⟩
  rw[u9 r1]
  exact p H ι _ Ext.refl G0 (by simp[Rel])
 |_=>cases q
noncomputable def cM (d:D)(g:G):Option (List D):=match d with
 |.tup xs=>some xs
 |.lst xs=>some xs
 |.ref n=>g[n]?
 |_=>none
theorem ib {K H ι g d v xs}(G0:ak K H ι g)(r:Rel K H ι d v)(h:cM d g=some xs):∃a vs,v = .ref a/\(b7 K H a vs\/da K H a vs)/\ae K H ι xs vs:=by
 cases d with
 |tup ys=>cases h;simp only[Rel]at r;obtain⟨a,vs,rfl,hq,hr⟩:=r;exact⟨a,vs,rfl,.inr hq.sq,hr⟩
 |lst ys=>cases h;simp only[Rel]at r;obtain⟨a,vs,rfl,hq,hr⟩:=r;exact⟨a,vs,rfl,.inl hq.sq,hr⟩
 |ref n =>
  simp only[Rel]at r;obtain⟨a,rfl,ha⟩:=r
  obtain⟨vs,h1,h2⟩:=G0.at h ha
  exact⟨a,vs,rfl,.inl (.of h1),h2⟩
 |_=>cases h
noncomputable def rM (d1 d2:D)(g:G):Option (D×G):=match d2 with
 |.int i=>(cM d1 g).bind λxs=>(bW xs i).map λd=>(d,g)
 |_=>none
theorem Et {K H ι}{xs:List D}{vs:List V}{i:Int}{d:D}(r:ae K H ι xs vs)(h:bW xs i=some d):∃v,bW vs i=some v/\Rel K H ι d v:=by
 unfold bW at h ⊢
 rw[<- r.length]
 obtain⟨j,h1,h2⟩:=bind_some h
 obtain⟨v,h3,h4⟩:=r.get h2
 exact⟨v,by rw[h1];exact h3,h4⟩
theorem Eu:jI X (ck X.kw rM):=by
 intro value slice pins s σ H x y v u Q I rx ry q hs
 obtain⟨ι,g,d1,d2,d,g',G0,r1,r2,q,p⟩:=q
 cases d2 with
 |int i =>
  simp only[Rel]at r2;subst r2
  simp only[rM]at q
  obtain⟨xs,h1,q⟩:=bind_some q
  cases h2:bW xs i with
  |none=>rw[h2]at q;cases q
  |some e =>
   rw[h2]at q;cases q
   obtain⟨a,vs,rfl,hq,hr⟩:=ib G0 r1 h1
   obtain⟨w,h3,h4⟩:=Et hr h2
   have fin:=p H ι w Ext.refl G0 h4
   rcases hq with hq|hq
   . exact x4 value slice pins s σ H _ _ v u Q I rx ry (.inl ⟨a,vs,i,w,rfl,rfl,hq,h3,fin⟩) hs
   . exact x4 value slice pins s σ H _ _ v u Q I rx ry (.inr (.inl ⟨a,vs,i,w,rfl,rfl,hq,h3,fin⟩)) hs
 |_=>cases q
noncomputable def iz (ds:List D)(g:G):Option (D×G):=match ds with| [d]=>(cM d g).map λxs=>(.int xs.length,g)|_=>none
theorem HW:bS X (.builtin "len") (h_ X.kw iz):=by
 intro pins s σ H xs us Q I r q
 obtain⟨ι,g,ds,d,g',G0,r1,q,p⟩:=q
 cases ds with
 |nil=>cases q
 |cons e yD =>
 cases yD with
 |cons _ _=>cases q
 |nil =>
  simp only[iz]at q
  cases hx:cM e g with
  |none=>rw[hx]at q;cases q
  |some ys =>
   rw[hx]at q;cases q
   simp only[ae]at r1
   obtain⟨v,_,rfl,rv,rfl⟩:=r1
   obtain⟨a,vs,rfl,hq,hr⟩:=ib G0 rv hx
   exact qI pins s σ H _ us Q I r ⟨a,vs,rfl,hq,by rw[<- hr.length];exact p H ι _ Ext.refl G0 (by simp[Rel])⟩
noncomputable def nV (ds:List D)(g:G):Option (D×G):=match ds with| [.int i,.int j]=>some (.int (if j>i then j else i),g)|_=>none
noncomputable def nW (ds:List D)(g:G):Option (D×G):=match ds with| [.int i,.int j]=>some (.int (if j<i then j else i),g)|_=>none
theorem HY (hc:X.calm=true):bS X (.builtin "max") (h_ X.kw nV):=by
 intro pins s σ H xs us Q I r q
 obtain⟨ι,g,ds,d,g',G0,r1,q,p⟩:=q
 unfold nV at q
 split at q
 . cases q
   simp only[ae,Rel]at r1
   obtain⟨_,_,rfl,rfl,_,_,rfl,rfl,rfl⟩:=r1
   exact xR hc pins s σ H _ us Q I r ⟨_,_,rfl,p H ι _ Ext.refl G0 (by simp[Rel])⟩
 . cases q
theorem HZ (hc:X.calm=true):bS X (.builtin "min") (h_ X.kw nW):=by
 intro pins s σ H xs us Q I r q
 obtain⟨ι,g,ds,d,g',G0,r1,q,p⟩:=q
 unfold nW at q
 split at q
 . cases q
   simp only[ae,Rel]at r1
   obtain⟨_,_,rfl,rfl,_,_,rfl,rfl,rfl⟩:=r1
   exact xS hc pins s σ H _ us Q I r ⟨_,_,rfl,p H ι _ Ext.refl G0 (by simp[Rel])⟩
 . cases q
noncomputable def dY (ds:List D)(g:G):Option (D×G):=match ds with| [.int i]=>some (.int i,g)| [.bl k]=>some (.int (if k then 1 else 0),g)|_=>none
theorem H0:bS X (.type "int") (h_ X.kw dY):=by
 intro pins s σ H xs us Q I r q
 obtain⟨ι,g,ds,d,g',G0,r1,q,p⟩:=q
 unfold dY at q
 split at q
 . cases q
   simp only[ae,Rel]at r1
   obtain⟨_,_,rfl,rfl,rfl⟩:=r1
   exact oH pins s σ H _ us Q I r (.inl ⟨_,rfl,p H ι _ Ext.refl G0 (by simp[Rel])⟩)
 . cases q
   simp only[ae,Rel]at r1
   obtain⟨_,_,rfl,rfl,rfl⟩:=r1
   exact oH pins s σ H _ us Q I r (.inr ⟨_,rfl,p H ι _ Ext.refl G0 (by simp[Rel])⟩)
 . cases q
noncomputable def cD (ds:List D)(g:G):Option (D×G):=match ds with| [d]=>(cM d g).bind λxs=>if aC xs.length=true then some (.tup xs,g)else none|_=>none
theorem H4:bS X (.type "tuple") (h_ X.kw cD):=by
 intro pins s σ H xs us Q I r q
 obtain⟨ι,g,ds,d,g',G0,r1,q,p⟩:=q
 cases ds with
 |nil=>cases q
 |cons e yD =>
 cases yD with
 |cons _ _=>cases q
 |nil =>
  simp only[cD]at q
  obtain⟨ys,hx,q⟩:=bind_some q
  split at q
  . rename_i z
    cases q
    simp only[ae]at r1
    obtain⟨v,_,rfl,rv,rfl⟩:=r1
    cases e with
    |tup zs =>
     cases hx
     simp only[Rel]at rv
     obtain⟨a,vs,rfl,hq,hr⟩:=rv
     exact jJ pins s σ H _ us Q I r ⟨a,vs,rfl,.inr ⟨hq.sq,p H ι _ Ext.refl G0 (by simp only[Rel];exact⟨a,vs,rfl,hq,hr⟩)⟩⟩
    |_ =>
     obtain⟨a,vs,rfl,hq,hr⟩:=ib G0 rv hx
     have QQ:b7 X.kw H a vs:=by
      rcases hq with hq|hq
      . exact hq
      . exfalso
        first
         | (cases hx;done)
         | (simp only[Rel]at rv;obtain⟨a',QR,e1,bb,_⟩:=rv;cases e1;exact kF I hq bb.sq)
         | (simp only[Rel]at rv;obtain⟨a',e1,ha⟩:=rv;cases e1;obtain⟨ws,h1,h2⟩:=G0.at hx ha;exact kF I hq (.of h1))
     refine jJ pins s σ H _ us Q I r ⟨a,vs,rfl,.inl ⟨QQ,λl hl=>p _ _ _ (Ext.lay hl) (G0.lay hl) ?_⟩⟩
     simp only[Rel]
     exact⟨l,vs,rfl,.inl ⟨.inl aR,G0.fresh hl⟩,ae.ext (Ext.lay hl) _ hr⟩
  . cases q
end
section
variable {X:Cx}
inductive Ty|int|bool|str|tuple|list|dict
noncomputable def Ty.name:Ty->String
 |.int=>"int"|.bool=>"bool"|.str=>"str"|.tuple=>"tuple"|.list=>"list"|.dict=>"dict"
noncomputable def ic:Ty->D->Bool
 |.int,.int _=>true|.int,.bl _=>true|.bool,.bl _=>true|.str,.str _=>true
 |.tuple,.tup _=>true|.list,.lst _=>true|.list,.ref _=>true|.dict,.bF=>true|.dict,.aI _=>true
 |_,_=>false
noncomputable def isFn:D->Bool
 |.fn _=>true
 |_=>false
noncomputable def rN (T:Ty)(f:FE):FE:=λσ g=>(f σ g).bind λr=>if isFn r.1=true then none else some (.bl (ic T r.1),r.2)
theorem isi_call {pins:List (Addr×Obj)}{s:Shared}{σ:L2.St}{H:Hp}{ι:Ix}{g:G}{d:D}{x:V}{u:Value}{Q:Value->Shared->Prop}(T:Ty)(I:Inv X pins σ H s)(G0:ak X.kw H ι g)(r:Rel X.kw H ι d x)(hd:isFn d=false)(ru:RelV x u)(h:∀tk,Q (.bool (ic T d)) { s with toks:=tk }):
  wpAny (model X.prog X.w) X.A (call (.builtin "isinstance") [u,.type T.name]) Q X.xe s:=by
 cases d with
 |ao=>simp only[Rel]at r;subst r;cases ru;exact PySem.W.kia_one PySem.W.kitx_none I.dB True.intro (b:=ic T .ao) (by cases T<;>rfl) (λz=>nomatch z) h
 |bl b=>simp only[Rel]at r;subst r;cases ru;exact PySem.W.kia_one PySem.W.kitx_bool I.dB True.intro (b:=ic T (.bl b)) (by cases T<;>rfl) (λz=>nomatch z) h
 |int b=>simp only[Rel]at r;subst r;obtain⟨t,rfl⟩:=ru;exact PySem.W.kia_one PySem.W.kitx_int I.dB True.intro (b:=ic T (.int b)) (by cases T<;>rfl) (λz=>nomatch z) h
 |str b=>simp only[Rel]at r;subst r;obtain⟨t,rfl⟩:=ru;exact PySem.W.kia_one PySem.W.kitx_str I.dB True.intro (b:=ic T (.str b)) (by cases T<;>rfl) (λz=>nomatch z) h
 |tup xs =>
  simp only[Rel]at r;obtain⟨a,vs,rfl,hq,hr⟩:=r;cases ru
  obtain⟨ah,_,⟨o,h1,h2,_⟩,_⟩:=I.tuple hq.sq
  exact PySem.W.kia_one PySem.W.kitx_tuple I.dB ⟨o,h1,h2⟩ (b:=ic T (.tup xs)) (by cases T<;>rfl) (λz=>nomatch z) h
 |lst xs =>
  simp only[Rel]at r;obtain⟨a,vs,rfl,hq,hr⟩:=r;cases ru
  obtain⟨ah,_,⟨o,n,h1,h2,_⟩,_⟩:=I.list hq.sq
  exact PySem.W.kia_one PySem.W.kitx_list I.dB ⟨o,h1,h2⟩ (b:=ic T (.lst xs)) (by cases T<;>rfl) (λz=>nomatch z) h
 |ref n =>
  simp only[Rel]at r;obtain⟨a,rfl,ha⟩:=r;cases ru
  have hi:n<g.length:=by rw[<- G0.len];exact(List.getElem?_eq_some_iff.mp ha.1).1
  obtain⟨vs,h1,h2⟩:=G0.at (List.getElem?_eq_getElem hi) ha
  obtain⟨ah,_,⟨o,n,h1,h2,_⟩,_⟩:=I.list (b7.of h1)
  exact PySem.W.kia_one PySem.W.kitx_list I.dB ⟨o,h1,h2⟩ (b:=true&&ic T (.lst [])) (by cases T<;>rfl) (λz=>nomatch z) (by cases T<;>exact h)
 |bF =>
  simp only[Rel]at r;obtain⟨a,rfl,ha,_⟩:=r;cases ru
  obtain⟨_,_,vs,_,p⟩:=(show b8 X.prog X.w H s.heap a (.dK []) from I.aV a _ ha)
  obtain⟨o,es,ep,h1,h2,_⟩:=p
  exact PySem.W.kia_one PySem.W.kitx_dict I.dB ⟨o,h1,h2.1⟩ (b:=ic T .bF) (by cases T<;>rfl) (λz=>nomatch z) h
 |aI n =>
  simp only[Rel]at r;obtain⟨a,rfl,ha⟩:=r;cases ru
  have hi:n<g.length:=by rw[<- G0.len];exact(List.getElem?_eq_some_iff.mp ha.1).1
  obtain⟨es,vs,c,h1,_⟩:=G0.iJ (List.getElem?_eq_getElem hi) ha
  have h2:=((show b8 X.prog X.w H s.heap a (dO a es c) from I.aV a _ h1)).1
  exact PySem.W.kia_one PySem.W.kitx_dict I.dB ⟨_,h2,rfl⟩ (b:=ic T (.aI n)) (by cases T<;>rfl) (λz=>nomatch z) h
 |fn y=>cases hd
theorem H_ {a:Expr}{fa:FE}{p p2 pos:Pos}(T:Ty)(hm:X.mg "isinstance" = none)(QS:X.mg (Str.ofString T.name)=none)(ha:DE X a fa)(hg:Gl X "isinstance":=by rfl)(QT:Gl X (Str.ofString T.name):=by rfl)
   (Cy:starEach [a,.Name (Str.ofString T.name) p2] X.env=(false,eval a X.env)::starEach [.Name (Str.ofString T.name) p2] X.env:=by rfl):DE X (.Call (.Name "isinstance" p) [a,.Name (Str.ofString T.name) p2] [] pos) (rN T fa):=.of (by
 have hT:bootBuiltins (Str.ofString T.name)=some (.type T.name):=by
   cases T
   . exact PyProof.Rows.boot_int
   . exact PyProof.Rows.boot_bool
   . exact PyProof.Rows.boot_str
   . exact PyProof.Rows.boot_tuple
   . exact PyProof.Rows.boot_list
   . exact PyProof.Rows.boot_dict
 have hc:bS X (.builtin "isinstance") (λxs H Q=>∃x ι g d,xs = [x,.ty T.name]/\ak X.kw H ι g/\Rel X.kw H ι d x/\isFn d=false/\Q (.bl (ic T d)) H):=by
   intro pins s σ H xs us Q I r q
   obtain⟨x,ι,g,d,rfl,G0,rd,nf,q⟩:=q
   obtain⟨u,w',rfl,ru,rt⟩:=vals2 r
   cases rt
   exact isi_call T I G0 rd nf ru λtk=>⟨.bl _,H,I.tok _,rfl,q⟩
 refine PE.imp (qD hc hg hm PyProof.Rows.boot_isinstance (iF ha.un (iF (Dx (v:=.ty T.name) QT QS hT rfl (by cases T<;>decide) (by cases T<;>decide)) mz (by rfl)) Cy) (by decide) (by decide) Cy) λσ H Q h=>?_
 obtain⟨ι,σd,g,d,g',G0,S0,h,p⟩:=h
 obtain⟨⟨d1,g1⟩,h1,h⟩:=bind_some h
 dsimp only at h
 split at h
 . cases h
 rename_i nf
 cases h
 exact tD.bind G0 S0 h1 λH1 ι1 v e1 G1 S1 r1=>⟨v,ι1,g',d1,rfl,G1,r1,by simpa using nf,p H1 ι1 _ e1 G1 (by simp[Rel])⟩)
end
end L3
namespace L3
open PySem PySem.Spec PyProof.Rows L2
open Sem (wp)
open Builtin
theorem tuple_addW0 (l b:Addr)(items bY:Array Value)(n n2:Nat)(dd jG:Option Addr)(sl hU:Array (Option Value))(QU:items.isEmpty=true):
  Meets (Builtin.«tuple.__add__» ⟨[.ref l,.ref b],[]⟩) (λ_ R s=>s.heap.get? l=some { cls:=.type "tuple",dict:=dd,data:=.seq items n,slots:=sl }/\s.heap.get? b=some { cls:=.type "tuple",dict:=jG,data:=.seq bY n2,slots:=hU }/\R (.ok (.ret (Value.ref b))) { s with heap:=s.heap,toks:=s.toks }):=
 .of_wp λprog w A R s h=>by obtain⟨hp,g,d,tk,os⟩:=s;obtain⟨hl,hb,h⟩:=h;have f1:=AutoSeq1.idx_int;have f2:=AutoSeq1.sub_tuple_tuple;have f3:=AutoSeq1.sub_list_list;have f4:=AutoSeq1.sub_tuple_list;have f5:=AutoSeq1.sub_list_tuple;wp_walk using AutoSeq1.wpAny_loadPart' hl,AutoSeq1.wpAny_loadPart' hb;exact⟨_,rfl,h⟩
theorem lW:fillsNumberSlot (.type "tuple") "mul" = pure false :=
 PySem.fillsNumberSlot_seq (id:="tuple.__mul__") (r:=some (.builtin "tuple.__rmul__")) F.slot_tuple_mul.lookup (by decide +kernel) F.slot_tuple_rmul.lookup (by decide +kernel)
theorem rO:seqRepeat? (.type "tuple")=pure (some (.builtin "tuple.__mul__")):=by
 unfold seqRepeat?
 rw[PySem.seqSlot_of (T:="tuple") (name:="__mul__") (id:="tuple.__mul__") F.slot_tuple_mul.lookup (by decide +kernel),PySem.seqSlot_of (T:="tuple") (name:="__rmul__") (id:="tuple.__rmul__") F.slot_tuple_rmul.lookup (by decide +kernel)]
 rfl
theorem nX (a:Int)(t:Tok)(l:Addr)(items:Array Value)(n:Nat)(dd:Option Addr)(sl:Array (Option Value)):
  Meets (Builtin.«int.__rmul__» ⟨[.int a t,.ref l],[]⟩) (λ_ R s=>s.heap.get? l=some { cls:=.type "tuple",dict:=dd,data:=.seq items n,slots:=sl }/\R (.ok (.ret Value.notImplemented)) s):=
 .of_wp λprog w A R s h=>by obtain⟨hp,g,d,tk,os⟩:=s;obtain⟨hl,h⟩:=h;wp_walk;exact⟨_,rfl,h⟩
theorem wB (l:Addr)(items:Array Value)(n:Nat)(dd:Option Addr)(sl:Array (Option Value))(x:Int)(u:Tok)(h0:¬(decide (x < -(2 ^ 63))||decide (x>=2 ^ 63))=true)(h1:¬(items.isEmpty||x == 1)=true)(h2:¬(decide (x<=0)||items.isEmpty)=true)
  (h3:¬(items.size:Int)*x>(2 ^ 63-1) / 8) (h4:¬Builtin.Tuple.tupleTooMany ((items.size:Int)*x)=true) (cX:((List.replicate x.toNat items).foldl (· ++ ·) #[]).size<=sizeLine):
  Meets (Builtin.«tuple.__mul__» ⟨[.ref l,.int x u],[]⟩) (λ_ R s=>s.heap.get? l=some { cls:=.type "tuple",dict:=dd,data:=.seq items n,slots:=sl }/\R (.ok (.ret (Value.ref s.heap.objs.size))) { s with heap:=s.heap.push { cls:=Value.type "tuple",data:=Data.seq ((List.replicate x.toNat items).foldl (· ++ ·) #[]) },toks:=s.toks }):=
 .of_wp λprog w A R s h=>by
  obtain⟨hp,g,d,tk,os⟩:=s;obtain⟨hl,h⟩:=h
  have f1:=AutoSeq1.idx_int;have f2:=AutoSeq1.sub_tuple_tuple
  wp_walk using AutoSeq1.wpAny_loadPart' hl
  refine wpAny_ite_false (decide_eq_false h0) ?_
  wp_walk using AutoSeq1.wpAny_loadPart' hl
  refine wpAny_ite_false (decide_eq_false h3) ?_
  wp_walk using AutoSeq1.wpAny_loadPart' hl
  exact⟨_,rfl,h⟩
theorem ua (l:Addr)(items:Array Value)(n:Nat)(dd:Option Addr)(sl:Array (Option Value))(x:Int)(u:Tok)(h0:¬(decide (x < -(2 ^ 63))||decide (x>=2 ^ 63))=true)(h1:(items.isEmpty||x == 1)=true):
  Meets (Builtin.«tuple.__mul__» ⟨[.ref l,.int x u],[]⟩) (λ_ R s=>s.heap.get? l=some { cls:=.type "tuple",dict:=dd,data:=.seq items n,slots:=sl }/\R (.ok (.ret (Value.ref l))) { s with heap:=s.heap,toks:=s.toks }):=
 .of_wp λprog w A R s h=>by
  obtain⟨hp,g,d,tk,os⟩:=s;obtain⟨hl,h⟩:=h
  have f1:=AutoSeq1.idx_int;have f2:=AutoSeq1.sub_tuple_tuple
  wp_walk using AutoSeq1.wpAny_loadPart' hl
  refine wpAny_ite_false (decide_eq_false h0) ?_
  wp_walk using AutoSeq1.wpAny_loadPart' hl
  exact⟨_,rfl,h⟩
theorem ub (l:Addr)(items:Array Value)(n:Nat)(dd:Option Addr)(sl:Array (Option Value))(x:Int)(u:Tok)(h0:¬(decide (x < -(2 ^ 63))||decide (x>=2 ^ 63))=true)(h1:¬(items.isEmpty||x == 1)=true)(h2:(decide (x<=0)||items.isEmpty)=true):
  Meets (Builtin.«tuple.__mul__» ⟨[.ref l,.int x u],[]⟩) (λ_ R s=>s.heap.get? l=some { cls:=.type "tuple",dict:=dd,data:=.seq items n,slots:=sl }/\R (.ok (.ret (Value.ref s.heap.objs.size))) { s with heap:=s.heap.push { cls:=Value.type "tuple",data:=Data.seq #[] },toks:=s.toks }):=
 .of_wp λprog w A R s h=>by
  obtain⟨hp,g,d,tk,os⟩:=s;obtain⟨hl,h⟩:=h
  have f1:=AutoSeq1.idx_int;have f2:=AutoSeq1.sub_tuple_tuple
  wp_walk using AutoSeq1.wpAny_loadPart' hl
  refine wpAny_ite_false (decide_eq_false h0) ?_
  wp_walk using AutoSeq1.wpAny_loadPart' hl
  exact⟨_,rfl,h⟩
section
variable {X:Cx}
noncomputable def K9 (K:KW):R2:=λx y H Q=>∃a k xs,x = .ref a/\y = .int k/\da K H a xs /\ -(2 ^ 63)<=k/\k<2 ^ 63/\xs.length*k.toNat<=16777216 /\
 ((xs = []\/k=1)->Q (.ref a) H)/\(xs ≠ []->k<=0->∀p,H p=none->Q (.ref p) (upd H p (.tup [])))/\(xs ≠ []->2<=k->∀p,H p=none->Q (.ref p) (upd H p (.tup (List.replicate k.toNat xs).flatten)))
theorem Ew:aX X (binaryOp .Mult) (K9 X.kw):=by
 intro pins s σ H x y v u Q I rx ry h
 obtain⟨a,k,xs,rfl,rfl,hq,h1,h2,hz,q1,q0,q2⟩:=h
 cases rx
 obtain⟨t,rfl⟩:=ry
 obtain⟨ah,r,ht,Ia⟩:=I.tuple hq
 have hl:=r.length
 obtain⟨⟨cls,dd,data,sl⟩,ho,hc,n,hd⟩:=id ht
 simp only at hc hd
 subst hc hd
 have hk:¬(decide (k < -(2 ^ 63))||decide (k>=2 ^ 63))=true:=by
   rw[Bool.or_eq_true,decide_eq_true_eq,decide_eq_true_eq]
   omega
 refine wpAny_binaryOp_repeat_ref (T:="tuple") (U:="int") (by decide) ⟨_,ho,rfl⟩ (λs'=>typeIs_int s' k t) lW F.fills_int_mul F.slot_int_rmul rO F.slot_int_index.lookup
   (call_meets F.slot_int_rmul (typeIs_int s k t) F.entry_int_rmul (F.args_int_rmul_2 _ _) (nX k t a ah.toArray n dd sl) ⟨ho,rfl,⟨_,ho,rfl⟩,?_⟩)
 by_cases c1:xs = []\/k=1
 . refine call_meets F.slot_tuple_mul ⟨_,ho,rfl⟩ F.entry_tuple_mul (F.args_tuple_mul_2 _ _) (ua a ah.toArray n dd sl k t hk ?_) ⟨ho,.ref a,H,I,rfl,q1 c1⟩
   rcases c1 with c1|c1
   . subst c1
     cases r
     simp
   . subst c1;simp
 . have hx:xs ≠ []:=λe=>c1 (.inl e)
   have yE:k≠1:=λe=>c1 (.inr e)
   have hi:ah ≠ []:=λe=>hx (by subst e;cases r;rfl)
   have n1:¬(ah.toArray.isEmpty||k == 1)=true:=by simp[hi,yE]
   have fresh:H s.heap.objs.size=none:=I.aV.fresh (Nat.le_refl _)
   by_cases c0:k<=0
   . refine call_meets F.slot_tuple_mul ⟨_,ho,rfl⟩ F.entry_tuple_mul (F.args_tuple_mul_2 _ _) (ub a ah.toArray n dd sl k t hk n1 (by simp[c0])) ⟨ho,?_⟩
     refine⟨.ref _,_,I.laid (t':=s.toks) (λb u e=>Heap.get?_push_of_some _ e) (Nat.le_refl _) ?_,rfl,q0 hx c0 _ fresh⟩
     exact⟨Nat.zero_le _,[],.nil,⟨_,Heap.get?_push_size _ rfl,rfl,⟨_,rfl⟩,rfl⟩⟩
   . have wC:List.foldl (λx1 x2=>x1++x2) #[] (List.replicate k.toNat ah.toArray)=(List.replicate k.toNat ah).flatten.toArray:=by
       have:=foldl_rep ah k.toNat []
       rw[List.nil_append]at this
       exact this
     have hs:sizeLine=16777216:=sizeLine_eq
     have cX:(ah.length:Int)*k<=16777216:=by
       have e1:((xs.length*k.toNat:Nat):Int)<=16777216:=Int.ofNat_le.mpr hz
       rw[Int.natCast_mul,Int.toNat_of_nonneg (by omega),hl]at e1
       exact e1
     refine call_meets F.slot_tuple_mul ⟨_,ho,rfl⟩ F.entry_tuple_mul (F.args_tuple_mul_2 _ _) (wB a ah.toArray n dd sl k t hk n1 (by simp[c0,hi]) (by rw[List.size_toArray];omega) ?_ ?_) ⟨ho,?_⟩
     . rw[List.size_toArray]
       unfold Tuple.tupleTooMany
       simp
       omega
     . rw[wC,List.size_toArray,len_rep,<- hl,Nat.mul_comm,hs];exact hz
     . rw[wC]
       refine⟨.ref _,_,I.laid (t':=s.toks) (λb u e=>Heap.get?_push_of_some _ e) (Nat.le_refl _) ?_,rfl,q2 hx (by omega) _ fresh⟩
       exact⟨by rw[len_rep,Nat.mul_comm,hs];exact hz,_,r.rep k.toNat,⟨_,Heap.get?_push_size _ rfl,rfl,⟨_,rfl⟩,rfl⟩⟩
theorem ae.rep {K H ι}{xs:List D}{vs:List V}(r:ae K H ι xs vs):∀k:Nat,ae K H ι (List.replicate k xs).flatten (List.replicate k vs).flatten
 | 0=>by simp[ae]
 |k+1=>by
  rw[List.replicate_succ,List.replicate_succ,List.flatten_cons,List.flatten_cons]
  exact ae.append r (ae.rep r k)
noncomputable def b6 (d1 d2:D)(g:G):Option (D×G):=match d1,d2 with
 |.int i,.int j=>if cI i j=true then some (.int (i*j),g)else none
 |.tup xs,.int k=>if(eN k&&aC (xs.length*k.toNat))=true then some (.tup (List.replicate k.toNat xs).flatten,g)else none
 |_,_=>none
theorem Ib:aX X (binaryOp .Mult) (ck X.kw b6):=by
 intro pins s σ H x y v u Q I rx ry q
 obtain⟨ι,g,d1,d2,d,g',G0,r1,r2,q,p⟩:=q
 unfold b6 at q
 split at q
 . split at q
   . rename_i i j z
     exact Eo pins s σ H x y v u Q I rx ry ⟨ι,g,.int i,.int j,d,g',G0,r1,r2,by simp only[bQ];rw[if_pos z];exact q,p⟩
   . cases q
 . split at q
   . rename_i xs k z
     simp only[Bool.and_eq_true]at z
     have z1:=eN.and z.1
     have z2:=aC.le z.2
     cases q
     simp only[Rel]at r1 r2
     obtain⟨a,vs,rfl,hq,hr⟩:=r1
     subst r2
     have hl:=hr.length
     have new:∀{zs:List D} {ws:List V},ae X.kw H ι zs ws->zs=(List.replicate k.toNat xs).flatten->∀q,H q=none->Q (.ref q) (upd H q (.tup ws)):=fun {zs ws} rz ez q bb=>by
       subst ez
       refine p _ _ _ (Ext.lay bb) (G0.lay bb) ?_
       simp only[Rel]
       exact⟨q,ws,rfl,.inl ⟨.inl aR,G0.fresh bb⟩,ae.ext (Ext.lay bb) _ rz⟩
     refine Ew pins s σ H _ _ v u Q I rx ry ⟨a,k,vs,rfl,rfl,hq.sq,(by omega),(by omega),by rw[<- hl];exact z2,λc=>?_,λhx hk=>?_,λhx hk=>?_⟩
     . refine p H ι _ Ext.refl G0 ?_
       simp only[Rel]
       refine⟨a,vs,rfl,hq,?_⟩
       rcases c with c|c
       . subst c
         have:xs = []:=List.eq_nil_of_length_eq_zero (by simpa using hl)
         subst this
         have e0:(List.replicate k.toNat ([]:List D)).flatten = []:=by simp
         rw[e0];exact hr
       . subst c
         have e0:(List.replicate (1:Int).toNat xs).flatten=xs:=by simp
         rw[e0];exact hr
     . refine new (zs:=[]) (by simp[ae]) ?_
       have:k.toNat=0:=by omega
       rw[this];simp
     . exact new (hr.rep k.toNat) rfl
   . cases q
 . cases q
theorem A7:aX X (binaryOp .Add) (λx y H Q=>∃a b ys,x = .ref a/\y = .ref b/\da X.kw H a []/\da X.kw H b ys/\Q (.ref b) H):=by
 intro pins s σ H x y v u Q I rx ry h
 obtain⟨a,b,ys,rfl,rfl,ha,hb,q⟩:=h
 cases rx
 cases ry
 obtain⟨ah,r1,p1,_⟩:=I.tuple ha
 obtain⟨eB,r2,p2,_⟩:=I.tuple hb
 obtain⟨⟨cls,dd,data,sl⟩,ho,hc,n,hd⟩:=id p1
 obtain⟨⟨vX,jG,data2,hU⟩,dJ,f_,n2,hd2⟩:=id p2
 simp only at hc hd f_ hd2
 subst hc hd f_ hd2
 exact concat_meets ⟨_,ho,rfl⟩ ⟨_,dJ,rfl⟩ noFill_tuple_add seq_tuple_add PySem.F.slot_tuple_add PySem.F.entry_tuple_add (PySem.F.args_tuple_add_2 _ _)
  (tuple_addW0 a b ah.toArray eB.toArray n n2 dd jG sl hU (by cases r1;simp)) ⟨ho,dJ,.ref b,H,I,rfl,q⟩
theorem Ex:aX X (binaryOp .Add) (λx y H Q=>∃a b xs ys,x = .ref a/\y = .ref b/\b7 X.kw H a xs/\b7 X.kw H b ys/\xs.length+ys.length<=sizeLine /\ ∀p,H p=none->Q (.ref p) (upd H p (.lst (xs++ys)))):=by
 intro pins s σ H x y v u Q I rx ry h
 obtain⟨a,b,xs,ys,rfl,rfl,ha,hb,hz,q⟩:=h
 cases rx
 cases ry
 obtain⟨ah,r1,p1,_⟩:=I.list ha
 obtain⟨eB,r2,p2,_⟩:=I.list hb
 obtain⟨⟨cls,dd,data,sl⟩,n,ho,hc,Ma,hd⟩:=id p1
 obtain⟨⟨vX,jG,data2,hU⟩,n2,dJ,f_,rP,hd2⟩:=id p2
 simp only at hc hd f_ hd2 Ma rP
 subst hc hd f_ hd2 Ma rP
 have e:ah.toArray++eB.toArray=(ah++eB).toArray:=by simp
 have hl:ah.length+eB.length<=sizeLine:=by rw[<- r1.length,<- r2.length];exact hz
 refine concat_meets ⟨_,ho,rfl⟩ ⟨_,dJ,rfl⟩ noFill_list_add seq_list_add PySem.F.slot_list_add PySem.F.entry_list_add (PySem.F.args_list_add_2 _ _) (list_addW a b ah.toArray eB.toArray n n2 none none sl hU (by simpa using hl)) ⟨ho,dJ,?_⟩
 rw[e]
 exact⟨.ref _,_,I.NB (t':=s.toks) (r1.append r2) (by rw[List.length_append];exact hz),rfl,q _ I.fresh⟩
noncomputable def eJ (d:D)(g:G):Option (List D):=match d with
 |.lst xs=>some xs
 |.ref n=>g[n]?
 |_=>none
theorem gQ {K H ι g d v xs}(G0:ak K H ι g)(r:Rel K H ι d v)(h:eJ d g=some xs):∃a vs,v = .ref a/\b7 K H a vs/\ae K H ι xs vs:=by
 cases d with
 |lst ys =>
  cases h
  simp only[Rel]at r
  obtain⟨a,vs,rfl,hq,hr⟩:=r
  exact⟨a,vs,rfl,hq.sq,hr⟩
 |ref n =>
  simp only[Rel]at r
  obtain⟨a,rfl,ha⟩:=r
  obtain⟨vs,h1,h2⟩:=G0.at h ha
  exact⟨a,vs,rfl,.of h1,h2⟩
 |_=>cases h
noncomputable def aO (d1 d2:D)(g:G):Option (D×G):=match d1,d2 with
 |.int i,.int j=>some (.int (i+j),g)
 |.tup xs,.tup ys=>if aC (xs.length+ys.length)=true then some (.tup (xs++ys),g)else none
 |.str i,.str j=>if aC (i.length+j.length)=true then some (.str (i++j),g)else none
 |d1,d2=>match eJ d1 g,eJ d2 g with
  |some xs,some ys=>if aC (xs.length+ys.length)=true then some (.lst (xs++ys),g)else none
  |_,_=>none
theorem Ic:aX X (binaryOp .Add) (ck X.kw aO):=by
 intro pins s σ H x y v u Q I rx ry q
 obtain⟨ι,g,d1,d2,d,g',G0,r1,r2,q,p⟩:=q
 unfold aO at q
 split at q
 . rename_i i j
   exact En pins s σ H x y v u Q I rx ry ⟨ι,g,.int i,.int j,d,g',G0,r1,r2,q,p⟩
 . split at q
   . rename_i xs ys z
     cases q
     simp only[Rel]at r1 r2
     obtain⟨a,vs,rfl,hq,hr⟩:=r1
     obtain⟨b,ws,rfl,j8,jK⟩:=r2
     by_cases hx:vs = []
     . subst hx
       have:xs = []:=List.eq_nil_of_length_eq_zero (by simpa using hr.length)
       subst this
       refine A7 pins s σ H _ _ v u Q I rx ry ⟨a,b,ws,rfl,rfl,hq.sq,j8.sq,p H ι _ Ext.refl G0 ?_⟩
       simp only[Rel,List.nil_append]
       exact⟨b,ws,rfl,j8,jK⟩
     . refine DU pins s σ H _ _ v u Q I rx ry ⟨a,b,vs,ws,rfl,rfl,hq.sq,j8.sq,hx,by rw[<- hr.length,<- jK.length];exact aC.le z,λe=>?_,λe q' bb=>?_⟩
       . subst e
         have:ys = []:=List.eq_nil_of_length_eq_zero (by simpa using jK.length)
         subst this
         refine p H ι _ Ext.refl G0 ?_
         simp only[Rel,List.append_nil]
         exact⟨a,vs,rfl,hq,hr⟩
       . refine p _ _ _ (Ext.lay bb) (G0.lay bb) ?_
         simp only[Rel]
         exact⟨q',_,rfl,.inl ⟨.inl aR,G0.fresh bb⟩,ae.ext (Ext.lay bb) _ (ae.append hr jK)⟩
   . cases q
 . split at q
   . rename_i x1 y1 z
     cases q
     simp only[Rel]at r1 r2
     subst r1 r2
     exact vT pins s σ H _ _ v u Q I rx ry ⟨x1,y1,rfl,rfl,aC.le z,p H ι _ Ext.refl G0 (by simp[Rel])⟩
   . cases q
 . split at q
   . rename_i xs ys e1 e2
     split at q
     . rename_i z
       cases q
       obtain⟨a,vs,rfl,hq,hr⟩:=gQ G0 r1 e1
       obtain⟨b,ws,rfl,j8,jK⟩:=gQ G0 r2 e2
       refine Ex pins s σ H _ _ v u Q I rx ry ⟨a,b,vs,ws,rfl,rfl,hq,j8,by rw[<- hr.length,<- jK.length];exact aC.le z,λq' bb=>?_⟩
       refine p _ _ _ (Ext.lay bb) (G0.lay bb) ?_
       simp only[Rel]
       exact⟨q',_,rfl,.inl ⟨.inl aR,G0.fresh bb,G0.gK bb⟩,ae.ext (Ext.lay bb) _ (ae.append hr jK)⟩
     . cases q
   . cases q
abbrev FO:=Sg->G->Option (Option Int×G)
inductive Mb (K:KW)(f:FO)(σ:L2.St)(H:Hp)(Q:(Option Int->Hp->Prop)):Prop
 |mk (ι:Ix) (σd:Sg) (g:G) (o:Option Int) (g':G) (h0:ak K H ι g) (h1:bf K H ι σd σ) (h2:f σd g=some (o,g')) (h3:mJ K H ι g' (Q o)):Mb K f σ H Q
structure DO (X:Cx)(e:Option Expr)(f:FO):Prop where of ::
 un:PO X e (Mb X.kw f)
theorem PO.imp {X:Cx}{e:Option Expr}{t t':TO}(h:PO X e t)(i:∀σ H Q,t' σ H Q->t σ H Q):PO X e t':=λpins s σ H Q I q=>h pins s σ H Q I (i σ H Q q)
noncomputable def A8:FO:=λ_ g=>some (none,g)
noncomputable def wD (f:FE):FO:=λσ g=>(f σ g).bind λr=>match r.1 with|.int i=>some (some i,r.2)|_=>none
theorem Ey:DO X none A8:=.of (PO.imp DQ λσ H Q h=>by
 obtain⟨ι,σd,g,o,g',G0,S0,h,p⟩:=h
 cases h
 exact p H ι Ext.refl G0)
theorem Ez {e:Expr}{f:FE}(h:DE X e f):DO X (some e) (wD f):=.of (PO.imp (DR h.un) λσ H Q h=>by
 obtain⟨ι,σd,g,o,g',G0,S0,h,p⟩:=h
 obtain⟨⟨d,g1⟩,h1,h⟩:=bind_some h
 cases d with
 |int i =>
  cases h
  exact tD.bind G0 S0 h1 λH1 ι1 v e1 G1 S1 r1=>⟨i,by simpa[Rel]using r1,p H1 ι1 e1 G1⟩
 |_=>cases h)
noncomputable def cutD (xs:List D)(lo hi:Option Int):List D:=(xs.drop (HT.aQ xs.length 0 lo)).take (HT.aQ xs.length xs.length hi-HT.aQ xs.length 0 lo)
noncomputable def iQ (n:Nat)(lo hi:Option Int):Bool:=decide (HT.aQ n 0 lo=0)&&decide (HT.aQ n n hi=n)
noncomputable def Ie (d:D)(lo hi:Option Int)(g:G):Option (D×G):=match d with
 |.tup xs=>if iQ xs.length lo hi=true then none else some (.tup (cutD xs lo hi),g)
 |.lst xs=>some (.lst (cutD xs lo hi),g)
 |.ref n=>match g[n]? with|some xs=>some (.lst (cutD xs lo hi),g)|none=>none
 |_=>none
theorem ae.Ig {K H ι}{xs:List D}{vs:List V}(r:ae K H ι xs vs)(lo hi:Option Int):ae K H ι (cutD xs lo hi) (jZ vs lo hi):=by
 unfold cutD jZ
 rw[<- r.length]
 exact ae.take _ (ae.drop _ r)
noncomputable def Ih (K:KW):V->Option Int->Option Int->Hp->VK->Prop:=λx lo hi H Q=>GA K x lo hi H Q\/GJ K x lo hi H Q
theorem EA:lA X (Ih X.kw):=by
 intro pins s σ H x v vl vu lo hi sl Q I rx hs pl pu h
 rcases h with h|h
 . exact GB pins s σ H x v vl vu lo hi sl Q I rx hs pl pu h
 . exact DY pins s σ H x v vl vu lo hi sl Q I rx hs pl pu h
theorem big {pins:List (Addr×Obj)}{σ:L2.St}{H:Hp}{s:Shared}(I:Inv X pins σ H s):sysModules<s.heap.objs.size:=by
 obtain⟨o,es,ep,e,_⟩:=I.mod.glob
 have h1:=Heap.lt_size (I.bk _ _ e)
 exact Nat.lt_trans (by decide) h1
theorem A9 {pos:Pos}:DE X (.Dict [] [] pos) (fC .bF):=.of (by
 intro pins s σ H Q I h
 obtain⟨ι,σd,g,d,g',G0,S0,h,p⟩:=h
 cases h
 have hf:H s.heap.objs.size=none:=I.aV.fresh (Nat.le_refl _)
 refine wpAny_Dict_empty ⟨.ref s.heap.objs.size,upd H s.heap.objs.size (.dK []),I.laid (t':=s.toks) (λb u e=>Heap.get?_push_of_some _ e) (Nat.le_refl _) ?_,rfl,p _ _ _ (Ext.lay hf) (G0.lay hf) ?_⟩
 . exact⟨Nat.zero_le _,beq_eq_false_iff_ne.mpr (Ne.symm (Nat.ne_of_lt (big I))),[],.nil,Heap.DictOf.new _⟩
 . simp only[Rel]
   exact⟨_,rfl,aR,G0.fresh hf⟩)
end
end L3
namespace L3
open PySem PySem.Spec PyProof.Rows L2
noncomputable def oLt:=mO λi j=>decide (i<j)
noncomputable def oLe:=mO λi j=>decide (i<=j)
noncomputable def rQ:=mO λi j=>decide (j<i)
noncomputable def yF:=mO λi j=>decide (j<=i)
noncomputable def nY (S:Scope)(XN N:List Str)(fr:List (Option Nat))(scope:Scope):Bool :=
 decide (scope.kind = .function)&&scope.names.all (λy=>!decide (y.2 = .cell)||decide (scope.names.lookup y.1=some .cell))&&scope.names.all (λy=>!decide (y.2 = .local)||decide (scope.names.lookup y.1=some .local)) &&
 scope.names.all (λy=>!decide (y.2 = .free)||(decide (scope.names.lookup y.1=some .free)&&(decide (S.names.lookup y.1=some .cell)||decide (S.names.lookup y.1=some .free)))) &&
 decide (fr.length=N.length)&&(List.range fr.length).all (λj=>match fr[j]? with
  |some (some i)=>match N[j]? with
   |some x=>decide (XN[i]? = some x)&&decide (scope.names.lookup x=some .free)
   |none=>false
  |_=>true)
theorem yG {X:Cx}{N:List Str}{fr:List (Option Nat)}{scope:Scope}{S:Scope}{XN:List Str}(hS:X.env.scope=S)(hN:X.N=XN)(h:nY S XN N fr scope=true):eH X N fr scope:=by
 unfold nY at h
 simp only[Bool.and_eq_true,decide_eq_true_eq,List.all_eq_true,Bool.or_eq_true,Bool.not_eq_true',decide_eq_false_iff_not]at h
 obtain⟨⟨⟨⟨⟨h1,h2⟩,h3⟩,h4⟩,h5⟩,h6⟩:=h
 refine⟨h1,λy hy e=>?_,λy hy e=>?_,λy hy e=>?_,h5,λj i hf=>?_⟩
 . rcases h2 y hy with z|z
   . exact absurd e z
   . exact z
 . rcases h3 y hy with z|z
   . exact absurd e z
   . exact z
 . rcases h4 y hy with z|z
   . exact absurd e z
   . refine⟨z.1,?_⟩
     show X.env.scope.names.lookup y.1=_\/X.env.scope.names.lookup y.1=_
     rw[hS];exact z.2
 . have hj:j∈List.range fr.length:=List.mem_range.mpr (List.getElem?_eq_some_iff.mp hf).1
   have:=h6 j hj
   rw[hf]at this
   dsimp only at this
   split at this
   . rename_i x hx
     simp only[Bool.and_eq_true,decide_eq_true_eq]at this
     exact⟨x,hx,by rw[hN];exact this.1,this.2⟩
   . cases this
noncomputable def eX (f:FE):FI:=λσ g=>(f σ g).bind λr=>match r.1 with|.tup xs=>some (xs,r.2)|.lst xs=>some (xs,r.2)|_=>none
theorem rR {X:Cx}{tg l:Expr}{fe:FE}(hl:DE X l fe):DI X tg l (eX fe):=.of (by
 intro pins s σ H R I h
 obtain⟨ι,σd,g,ds,g',G0,S0,h,p⟩:=h
 obtain⟨⟨d1,g1⟩,h1,h2⟩:=bind_some h
 cases d1 with
 |tup xs =>
  have h3:pU fe σd g=some (ds,g'):=by unfold pU;rw[h1];exact h2
  exact(HE hl).un pins s σ H R I ⟨ι,σd,g,ds,g',G0,S0,h3,p⟩
 |lst xs =>
  have h3:pV fe σd g=some (ds,g'):=by unfold pV;rw[h1];exact h2
  exact(HF hl).un pins s σ H R I ⟨ι,σd,g,ds,g',G0,S0,h3,p⟩
 |_=>cases h2)
end L3
namespace L3
open PySem L2
section
variable {σ:Sg}{g:G}{fa fb fc:FE}{fr:FA}{ga gb:FT}{f1 f2:FS}{o o':D->D->G->Option (D×G)}{fn:Fn}{t:FG}{ts:lE}
@[simp] theorem Cz {d}:fC d σ g=some (d,g):=rfl
@[simp] theorem cQ {i:Nat}:ab i σ g=(match σ[i]? with|some (some d)=>some (d,g)|_=>none):=rfl
@[simp] theorem rS:ai o fa fb σ g=(fa σ g).bind λr=>(fb σ r.2).bind λq=>o r.1 q.1 q.2:=rfl
@[simp] theorem QV {o:D->G->Option (D×G)}:j5 o fa σ g=(fa σ g).bind λr=>o r.1 r.2:=rfl
@[simp] theorem Ii {b:Bool}:jM (some (.bl b,g))=some (b,g):=rfl
@[simp] theorem A_:ay fa σ g=jM (fa σ g):=rfl
@[simp] theorem EB:qV fa σ g=(fa σ g).bind λr=>(iw r.1 r.2).map λb=>(b,r.2):=rfl
@[simp] theorem yH {b:Bool}:iw (.bl b) g=some b:=rfl
@[simp] theorem K_ {i:Int}:iw (.int i) g=some (i != 0):=rfl
@[simp] theorem EC:cU ga gb σ g=(ga σ g).bind λr=>if r.1=true then gb σ r.2 else some (false,r.2):=rfl
@[simp] theorem Ij:yn ga gb σ g=(ga σ g).bind λr=>if r.1=true then some (true,r.2)else gb σ r.2:=rfl
@[simp] theorem ED:qW ga σ g=(ga σ g).bind λr=>some (!r.1,r.2):=rfl
@[simp] theorem NO:wg fa fb σ g=(jM (fa σ g)).bind λr=>if r.1=true then fb σ r.2 else some (.bl false,r.2):=rfl
@[simp] theorem Pt:AS fa fb σ g=(jM (fa σ g)).bind λr=>if r.1=true then some (.bl true,r.2)else fb σ r.2:=rfl
@[simp] theorem Pu:AU ga fa fb σ g=(ga σ g).bind λr=>if r.1=true then fa σ r.2 else fb σ r.2:=rfl
@[simp] theorem cp:af σ g=some ([],g):=rfl
@[simp] theorem bN:aa fa fr σ g=(fa σ g).bind λr=>(fr σ r.2).bind λq=>some (r.1::q.1,q.2):=rfl
@[simp] theorem Ik {m:List D->G->Option (D×G)}:aA m fr σ g=(fr σ g).bind λr=>m r.1 r.2:=rfl
theorem EE {n:Nat}:aC n=decide (n<=16777216):=rfl
@[simp] theorem La {n:Nat}(h:n<=16777216):aC n=true:=decide_eq_true h
@[simp] theorem Mc {ds:List D}:aq ds g=if aC ds.length=true then some (.tup ds,g)else none:=rfl
@[simp] theorem Md {ds:List D}:cH ds g=if aC ds.length=true then some (.lst ds,g)else none:=rfl
@[simp] theorem Me {ds:List D}:mkRef ds g=if aC ds.length=true then some (.ref g.length,g ++ [ds])else none:=rfl
@[simp] theorem Ba:aF σ g=some (.nx,σ,g):=rfl
@[simp] theorem kG:aj f1 f2 σ g=(f1 σ g).bind λr=>match r.1 with|.nx=>f2 r.2.1 r.2.2|_=>some r:=rfl
@[simp] theorem EF:aH fa σ g=(fa σ g).bind λr=>some (.rt r.1,σ,r.2):=rfl
@[simp] theorem iR:a_ ga f1 f2 σ g=(ga σ g).bind λr=>if r.1=true then f1 σ r.2 else f2 σ r.2:=rfl
@[simp] theorem lX:cL fa σ g=(fa σ g).bind λr=>some (.nx,σ,r.2):=rfl
@[simp] theorem u_:ax fa t σ g=(fa σ g).bind λr=>(t r.1 σ r.2).bind λq=>some (.nx,q.1,q.2):=rfl
@[simp] theorem jo {i:Nat}{d:D}:gN i d σ g=some (σ.set i (some d),g):=rfl
@[simp] theorem NP:wk [] σ g=some (σ,g):=rfl
@[simp] theorem Mf {d:D}{r:List D}:qX t ts (d::r) σ g=(t d σ g).bind λq=>ts r q.1 q.2:=rfl
@[simp] theorem SQ {n:Nat}{xs:List D}:gT n ts (.tup xs) σ g=if xs.length=n then ts xs σ g else none:=rfl
@[simp] theorem eY:ag fn fr σ g=(fr σ g).bind λr=>fn r.1 r.2:=rfl
@[simp] theorem EG {T:Ty}:rN T fa σ g=(fa σ g).bind λr=>if isFn r.1=true then none else some (.bl (ic T r.1),r.2):=rfl
@[simp] theorem kH {i:FI}:cK i t f1 σ g=(i σ g).bind λr=>forL t f1 r.1 σ r.2:=rfl
@[simp] theorem Pw:eX fa σ g=(fa σ g).bind λr=>match r.1 with|.tup xs=>some (xs,r.2)|.lst xs=>some (xs,r.2)|_=>none:=rfl
@[simp] theorem NQ:pU fa σ g=(fa σ g).bind λr=>match r.1 with|.tup xs=>some (xs,r.2)|_=>none:=rfl
@[simp] theorem NR:pV fa σ g=(fa σ g).bind λr=>match r.1 with|.lst xs=>some (xs,r.2)|_=>none:=rfl
@[simp] theorem rT {mk:List D->G->Option (D×G)}{fi:FI}{fr:List (Option Nat)}{c:FT}:bp mk fi fr t c fa σ g=(fi σ g).bind λr=>if aC r.1.length=true then(cy t c fa r.1 (bM fr σ) r.2).bind λq=>mk q.1 q.2 else none:=rfl
@[simp] theorem Px {ds:List D}:bA ds g=some (.lst ds,g):=rfl
@[simp] theorem Bb:bw σ g=some (true,g):=rfl
@[simp] theorem QW {c:Int->Int->Bool}{f:Int->Int->Int}{i j:Int}:bQ c f (.int i) (.int j) g=if c i j=true then some (.int (f i j),g)else none:=rfl
@[simp] theorem NS {i j:Int}:pW i j=true:=rfl
@[simp] theorem QX {i j:Int}:oLt (.int i) (.int j) g=some (.bl (decide (i<j)),g):=rfl
@[simp] theorem QY {i j:Int}:oLe (.int i) (.int j) g=some (.bl (decide (i<=j)),g):=rfl
@[simp] theorem QZ {i j:Int}:rQ (.int i) (.int j) g=some (.bl (decide (j<i)),g):=rfl
@[simp] theorem Q0 {i j:Int}:yF (.int i) (.int j) g=some (.bl (decide (j<=i)),g):=rfl
@[simp] theorem Py {i:Int}:eW (.int i) g=some (.int (-i),g):=rfl
@[simp] theorem Pz {i j:Int}:aO (.int i) (.int j) g=some (.int (i+j),g):=rfl
@[simp] theorem PB {i j:Int}:b6 (.int i) (.int j) g=if cI i j=true then some (.int (i*j),g)else none:=rfl
@[simp] theorem Q1 {d:D}{i:Int}:rM d (.int i) g=(cM d g).bind λxs=>(bW xs i).map λe=>(e,g):=rfl
@[simp] theorem PC {xs:List D}:cM (.tup xs) g=some xs:=rfl
@[simp] theorem PD {xs:List D}:cM (.lst xs) g=some xs:=rfl
@[simp] theorem PF {n:Nat}:cM (.ref n) g=g[n]?:=rfl
@[simp] theorem PH {d:D}:iz [d] g=(cM d g).map λxs=>(.int xs.length,g):=rfl
@[simp] theorem PJ {i j:Int}:nV [.int i,.int j] g=some (.int (if j>i then j else i),g):=rfl
@[simp] theorem PK {i j:Int}:nW [.int i,.int j] g=some (.int (if j<i then j else i),g):=rfl
@[simp] theorem NT {k:Bool}:dY [.bl k] g=some (.int (if k then 1 else 0),g):=rfl
@[simp] theorem NU {i:Int}:dY [.int i] g=some (.int i,g):=rfl
@[simp] theorem PL {d:D}:cD [d] g=(cM d g).bind λxs=>if aC xs.length=true then some (.tup xs,g)else none:=rfl
@[simp] theorem PM {i j:Int}:oEq (.int i) (.int j) g=some (.bl (i == j),g):=rfl
@[simp] theorem PN {i j:Bool}:oEq (.bl i) (.bl j) g=some (.bl (i == j),g):=rfl
@[simp] theorem PQ {i j:Str}:oEq (.str i) (.str j) g=some (.bl (i == j),g):=rfl
@[simp] theorem PR {d:D}:A6 d .ao g=some (.bl (jn d),g):=rfl
@[simp] theorem NV {d:D}:wA d .ao g=some (.bl (!jn d),g):=rfl
theorem cR {nN nP:Nat}{ds:List D}{b:FS}{σ':Sg}{d:D}{g':G}(hl:ds.length=nP)(h:b (ds.map some++List.replicate (nN-nP) none) g=some (.rt d,σ',g'))(hg:g'.length=g.length):av false nN nP b ds g=some (d,g'):=by
 unfold av
 rw[if_pos hl,h]
 have e:settle g.length d g'=some (d,g'):=by
  unfold settle
  rw[if_pos hg]
 simpa using e
theorem nZ {nN nP:Nat}{ds:List D}{b:FS}{σ':Sg}{d:D}{g':G}(hl:ds.length=nP)(h:b (ds.map some++List.replicate (nN-nP) none) g=some (.rt d,σ',g')):av true nN nP b ds g=some (d,g'):=by
 unfold av
 rw[if_pos hl,h]
 rfl
end
theorem jq {t:FG}{c:FT}{e:FE}{h:D->D}(I:Sg->Prop):∀(ds:List D) (σ:Sg) (g:G),I σ->(∀d∈ds,∀σ,I σ->∃σ1,t d σ g=some (σ1,g)/\c σ1 g=some (true,g)/\e σ1 g=some (h d,g)/\I σ1)->cy t c e ds σ g=some (ds.map h,g)
 | [],_,_,_,_=>rfl
 |d::ds,σ,g,hi,hh=>by
  obtain⟨σ1,h1,h2,h3,h4⟩:=hh d List.mem_cons_self σ hi
  simp only[cy,h1,h2,h3,Option.bind_some,if_true,jq I ds σ1 g h4 λx hx=>hh x (List.mem_cons_of_mem _ hx),List.map_cons]
@[simp] theorem NW {α:Type}{σ:List (Option α)}:bM [] σ = []:=rfl
@[simp] theorem Mg {α:Type}{σ:List (Option α)}{fr:List (Option Nat)}:bM (none::fr) σ=none::bM fr σ:=rfl
@[simp] theorem Mh {α:Type}{σ:List (Option α)}{fr:List (Option Nat)}{i:Nat}:bM (some i::fr) σ=(σ[i]?).join::bM fr σ:=rfl
end L3
namespace L3
open PySem PySem.Spec PyProof.Rows L2
noncomputable def wF (c:Bool):D->Bool
 |.bl b=>b == c
 |_=>false
noncomputable def isLit (d1 d2:D):Option Bool:=match d2 with
 |.ao=>some (jn d1)
 |.bl c=>some (wF c d1)
 |_=>none
noncomputable def CA (d1 d2:D)(g:G):Option (D×G):=(isLit d1 d2).map λb=>(.bl b,g)
noncomputable def pY (d1 d2:D)(g:G):Option (D×G):=(isLit d1 d2).map λb=>(.bl (!b),g)
section
variable {X:Cx}
theorem yI {K H ι d v u c}(r:Rel K H ι d v)(rx:RelV v u):(u == Value.bool c)=wF c d/\PySem.plainIs u (.bool c)=true:=by
 cases d with
 |ao=>simp only[Rel]at r;subst r;cases rx;exact⟨rfl,rfl⟩
 |bl b=>simp only[Rel]at r;subst r;cases rx;exact⟨by cases b<;>cases c<;>rfl,rfl⟩
 |int _=>simp only[Rel]at r;subst r;obtain⟨t,rfl⟩:=rx;exact⟨rfl,rfl⟩
 |str _=>simp only[Rel]at r;subst r;obtain⟨t,rfl⟩:=rx;exact⟨rfl,rfl⟩
 |tup _=>simp only[Rel]at r;obtain⟨a,vs,rfl,_⟩:=r;cases rx;exact⟨rfl,rfl⟩
 |lst _=>simp only[Rel]at r;obtain⟨a,vs,rfl,_⟩:=r;cases rx;exact⟨rfl,rfl⟩
 |bF=>simp only[Rel]at r;obtain⟨a,rfl,_⟩:=r;cases rx;exact⟨rfl,rfl⟩
 |ref _=>simp only[Rel]at r;obtain⟨a,rfl,_⟩:=r;cases rx;exact⟨rfl,rfl⟩
 |aI _=>simp only[Rel]at r;obtain⟨a,rfl,_⟩:=r;cases rx;exact⟨rfl,rfl⟩
 |fn _=>simp only[Rel]at r;obtain⟨a,rfl,_⟩:=r;cases rx;exact⟨rfl,rfl⟩
theorem Lb:aX X (compareOp .Is) (ck X.kw CA):=by
 intro pins s σ H x y v u Q I rx ry q
 obtain⟨ι,g,d1,d2,d,g',G0,r1,r2,q,p⟩:=q
 cases d2 with
 |ao=>exact HV pins s σ H x y v u Q I rx ry ⟨ι,g,d1,.ao,d,g',G0,r1,r2,q,p⟩
 |bl c =>
  simp only[Rel]at r2;subst r2;cases ry
  simp only[CA,isLit,Option.map_some]at q
  cases q
  obtain⟨e,z⟩:=yI (c:=c) r1 rx
  refine wpAny_is_plain z ?_
  rw[e]
  exact⟨.bl _,H,I,rfl,p H ι _ Ext.refl G0 (by simp[Rel])⟩
 |_=>cases q
theorem EH:aX X (compareOp .IsNot) (ck X.kw pY):=by
 intro pins s σ H x y v u Q I rx ry q
 obtain⟨ι,g,d1,d2,d,g',G0,r1,r2,q,p⟩:=q
 cases d2 with
 |ao=>exact Er pins s σ H x y v u Q I rx ry ⟨ι,g,d1,.ao,d,g',G0,r1,r2,q,p⟩
 |bl c =>
  simp only[Rel]at r2;subst r2;cases ry
  simp only[pY,isLit,Option.map_some]at q
  cases q
  obtain⟨e,z⟩:=yI (c:=c) r1 rx
  refine wpAny_isNot_plain z ?_
  rw[e]
  exact⟨.bl _,H,I,rfl,p H ι _ Ext.refl G0 (by simp[Rel])⟩
 |_=>cases q
end
@[simp] theorem Q2 {d1 d2:D}{g:G}:CA d1 d2 g=(isLit d1 d2).map λb=>(.bl b,g):=rfl
@[simp] theorem NX {d1 d2:D}{g:G}:pY d1 d2 g=(isLit d1 d2).map λb=>(.bl (!b),g):=rfl
@[simp] theorem Mi {d1:D}:isLit d1 .ao=some (jn d1):=rfl
@[simp] theorem Mj {d:D}{c:Bool}:isLit d (.bl c)=some (wF c d):=rfl
@[simp] theorem PU {b c:Bool}:wF c (.bl b)=(b == c):=rfl
noncomputable def Ix.none (ι:Ix):Ix:=⟨[],ι.ix++ι.hd,ι.kd⟩
noncomputable def Bc:HO->Bool
 |.tup _=>true
 |.jS _ _=>true
 |.dK _=>true
 |_=>false
mutual
theorem Rel.toN {K H ι}:∀(d:D) {v:V},dC 0 d=true->Rel K H ι d v->Rel K H (Ix.none ι) d v
 |.ao,v,_,h=>by simpa[Rel]using h
 |.bl _,v,_,h=>by simpa[Rel]using h
 |.int _,v,_,h=>by simpa[Rel]using h
 |.str _,v,_,h=>by simpa[Rel]using h
 |.tup xs,v,z,h=>by
  simp only[Rel]at h ⊢
  obtain⟨a,vs,e1,hq,hr⟩:=h
  refine⟨a,vs,e1,?_,ae.toN xs z hr⟩
  rcases hq with⟨hq,hn⟩|hq
  . exact .inl ⟨hq,by simp[Ix.none]⟩
  . exact .inr hq
 |.lst xs,v,z,h=>by
  simp only[Rel]at h ⊢
  obtain⟨a,vs,e1,hq,hr⟩:=h
  refine⟨a,vs,e1,?_,ae.toN xs z hr⟩
  rcases hq with⟨hq,hn,hh⟩|hq
  . exact .inl ⟨hq,by simp[Ix.none],λm=>(List.mem_append.mp m).elim hn hh⟩
  . exact .inr hq
 |.bF,v,_,h=>by
  simp only[Rel]at h ⊢
  obtain⟨a,e1,hq,hr⟩:=h
  exact⟨a,e1,hq,by simp[Ix.none]⟩
 |.ref k,v,z,h=>by simp[dC]at z
 |.aI k,v,z,h=>by simp[dC]at z
 |.fn x,v,_,h=>by simpa[Rel]using h
theorem ae.toN {K H ι}:∀(ds:List D) {vs:List V},bX 0 ds=true->ae K H ι ds vs->ae K H (Ix.none ι) ds vs
 | [],vs,_,h=>by simpa[ae]using h
 |d::ds,vs,z,h=>by
  simp only[ae]at h ⊢
  simp only[bX,Bool.and_eq_true]at z
  obtain⟨v,vr,e1,hq,hr⟩:=h
  exact⟨v,vr,e1,Rel.toN d z.1 hq,ae.toN ds z.2 hr⟩
end
mutual
theorem Rel.va {K H ι ι'}(hh:ι'.hd=ι.ix++ι.hd)(hl:∀a∈ι.ix,∃o,H a=some o/\Bc o=false):∀(d:D) {v:V},dC 0 d=true->Rel K H ι' d v->Rel K H ι d v
 |.ao,v,_,h=>by simpa[Rel]using h
 |.bl _,v,_,h=>by simpa[Rel]using h
 |.int _,v,_,h=>by simpa[Rel]using h
 |.str _,v,_,h=>by simpa[Rel]using h
 |.tup xs,v,z,h=>by
  simp only[Rel]at h ⊢
  obtain⟨a,vs,e1,hq,hr⟩:=h
  refine⟨a,vs,e1,?_,ae.va hh hl xs z hr⟩
  rcases hq with⟨hq,hn⟩|hq
  . refine .inl ⟨hq,λm=>?_⟩
    obtain⟨us,e,f⟩:=hl a m
    rcases hq with hq|⟨o,hq⟩<;>rw[e]at hq<;>cases hq<;>cases f
  . exact .inr hq
 |.lst xs,v,z,h=>by
  simp only[Rel]at h ⊢
  obtain⟨a,vs,e1,hq,hr⟩:=h
  refine⟨a,vs,e1,?_,ae.va hh hl xs z hr⟩
  rcases hq with⟨hq,hn,hk⟩|hq
  . rw[hh]at hk
    exact .inl ⟨hq,λm=>hk (List.mem_append.mpr (.inl m)),λm=>hk (List.mem_append.mpr (.inr m))⟩
  . exact .inr hq
 |.bF,v,_,h=>by
  simp only[Rel]at h ⊢
  obtain⟨a,e1,hq,hr⟩:=h
  refine⟨a,e1,hq,λm=>?_⟩
  obtain⟨us,e,f⟩:=hl a m
  rw[e]at hq;cases hq;cases f
 |.ref k,v,z,h=>by simp[dC]at z
 |.aI k,v,z,h=>by simp[dC]at z
 |.fn x,v,_,h=>by simpa[Rel]using h
theorem ae.va {K H ι ι'}(hh:ι'.hd=ι.ix++ι.hd)(hl:∀a∈ι.ix,∃o,H a=some o/\Bc o=false):∀(ds:List D) {vs:List V},bX 0 ds=true->ae K H ι' ds vs->ae K H ι ds vs
 | [],vs,_,h=>by simpa[ae]using h
 |d::ds,vs,z,h=>by
  simp only[ae]at h ⊢
  simp only[bX,Bool.and_eq_true]at z
  obtain⟨v,vr,e1,hq,hr⟩:=h
  exact⟨v,vr,e1,Rel.va hh hl d z.1 hq,ae.va hh hl ds z.2 hr⟩
end
theorem ak.lst {K H ι g}(h:ak K H ι g){a:Addr}(ha:a∈ι.ix):∃o,H a=some o/\Bc o=false:=by
 obtain⟨i,hi,e⟩:=List.mem_iff_getElem.mp ha
 have hg:i<g.length:=by rw[<- h.len];exact hi
 obtain⟨b,o,vs,hb,h1,ov,_⟩:=h.at_ i _ (List.getElem?_eq_getElem hg)
 rw[List.getElem?_eq_getElem hi,e]at hb
 cases hb
 generalize ι.kd i=kk at ov
 exact⟨o,h1,by cases ov<;>rfl⟩
noncomputable def j_ (fn:Fn):Fn:=λds g=>if bX 0 ds=true then(fn ds []).bind λr=>if dC 0 r.1=true then some (r.1,g)else none else none
theorem lH {fn:Fn}{ds g d g'}(h:j_ fn ds g=some (d,g')):bX 0 ds=true/\(∃gx,fn ds []=some (d,gx))/\dC 0 d=true/\g'=g:=by
 unfold j_ at h
 split at h
 . rename_i z
   obtain⟨⟨d1,g1⟩,h1,h⟩:=bind_some h
   split at h
   . rename_i z2
     cases h
     exact⟨z,⟨g1,h1⟩,z2,rfl⟩
   . cases h
 . cases h
theorem EI {P:Program}{K:KW}{base:Heap}{k n f fd ps}{fn:Fn}(F:cC P K.w K.fr K.mg base gh k f fd ps (j6 K n fn)):cC P K.w K.fr K.mg base gh k f fd ps (j6 K n (j_ fn)):=
 cC.imp F λvs H Q E ⟨hl,ι,g,ds,d,g',G0,r,h,p⟩=>by
  obtain⟨z,⟨gx,hx⟩,z2,rfl⟩:=lH h
  refine⟨hl,Ix.none ι,[],ds,d,gx,⟨List.nodup_nil,rfl,λb hb=>⟨by simp[Ix.none],?_⟩,λi xs q=>by simp at q⟩,ae.toN ds z r,hx,λH' ι' v e G1 rv=>?_⟩
  . rcases List.mem_append.mp hb with m|m
    . exact G0.oC m
    . exact(G0.bI b m).2
  . have same:∀a∈ι.ix,H' a=H a:=λa ha=>by
      obtain⟨vs,ev,_⟩:=G0.lst ha
      rw[ev]
      exact e.same a _ ev (by simp[Ix.none])
    have e0:Ext H ι H' ι:=⟨λa o q _=>e.same a o q (by simp[Ix.none]),e.there,⟨[],by simp,λ_ q=>by simp at q⟩,rfl,λ_ _=>rfl⟩
    refine p H' ι v e0 (G0.ext e0 same) (Rel.va e.bI (λa ha=>?_) d z2 rv)
    obtain⟨vs,ev,f⟩:=G0.lst ha
    exact⟨vs,by rw[same a ha];exact ev,f⟩
theorem wG {fn:Fn}{n:Nat}(h:∀ds g r,fn ds g=some r->ds.length=n):∀ds g r,j_ fn ds g=some r->ds.length=n:=λds g r q=>by
 obtain⟨_,⟨gx,hx⟩,_⟩:=lH (d:=r.1) (g':=r.2) q
 exact h _ _ _ hx
end L3
namespace L3
open PySem L2
def wp {α:Type}(o:Option α)(Q:α->Prop):Prop:=∃a,o=some a/\Q a
section
variable {α β:Type}{o:Option α}{Q R:α->Prop}
@[simp] theorem ba {a:α}:wp (some a) Q=Q a:=by simp[wp]
@[simp] theorem PV:wp (none:Option α) Q=False:=by simp[wp]
@[simp] theorem wp_bind {f:α->Option β}{Q:β->Prop}:wp (o.bind f) Q=wp o λa=>wp (f a) Q:=by
 cases o<;>simp[wp]
@[simp] theorem wp_map {f:α->β}{Q:β->Prop}:wp (o.map f) Q=wp o λa=>Q (f a):=by
 cases o<;>simp[wp]
theorem wp_mono (h:wp o R)(i:∀a,R a->Q a):wp o Q:=let⟨a,e,r⟩:=h;⟨a,e,i a r⟩
end
@[simp] theorem Q3 {o:Option (D×G)}{Q:Bool×G->Prop}:wp (jM o) Q=wp o λr=>∃b,r.1 = .bl b/\Q (b,r.2):=by
 cases o with
 |none=>simp[jM]
 |some r =>
  obtain⟨d,g⟩:=r
  cases d with
  |bl b=>cases b<;>simp[jM]
  |_=>simp[jM]
section
variable {σ:Sg}{g:G}{fa:FE}{fl fh:FO}
@[simp] theorem NY {xs ys:List D}:aO (.tup xs) (.tup ys) g=if aC (xs.length+ys.length)=true then some (.tup (xs++ys),g)else none:=rfl
@[simp] theorem NZ {xs ys:List D}:aO (.lst xs) (.lst ys) g=if aC (xs.length+ys.length)=true then some (.lst (xs++ys),g)else none:=rfl
@[simp] theorem N0 {x y:Str}:aO (.str x) (.str y) g=if aC (x.length+y.length)=true then some (.str (x++y),g)else none:=rfl
@[simp] theorem PX:A8 σ g=some (none,g):=rfl
@[simp] theorem N1:wD fa σ g=(fa σ g).bind λr=>match r.1 with|.int i=>some (some i,r.2)|_=>none:=rfl
theorem N2 {xs:List D}{k:Int}(h1:k<=1000)(h0:-1000<=k)(h2:xs.length<=1000):b6 (.tup xs) (.int k) g=some (.tup (List.replicate k.toNat xs).flatten,g):=by
 show(if(eN k&&aC (xs.length*k.toNat))=true then some (D.tup (List.replicate k.toNat xs).flatten,g)else none)=_
 rw[if_pos]
 have hk:k.toNat<=1000:=by omega
 have:xs.length*k.toNat<=1000*1000:=Nat.mul_le_mul h2 hk
 rw[eN.of (by omega) (by omega),La (by omega)]
 rfl
end
theorem c7 {t:FG}{b:FS}{Q:F×Sg×G->Prop}(I:Nat->Sg->G->Prop):∀(ds:List D) (i:Nat) (σ:Sg) (g:G),I i σ g ->
  (∀(j:Nat) (d:D) σ g,ds[j]? = some d->I (i+j) σ g->wp (t d σ g) λq=>wp (b q.1 q.2) λr=>match r.1 with
   |.nx=>I (i+j+1) r.2.1 r.2.2
   |.ct=>I (i+j+1) r.2.1 r.2.2
   |.bk=>Q (.nx,r.2.1,r.2.2)
   |.rt d=>Q (.rt d,r.2.1,r.2.2))->(∀σ g,I (i+ds.length) σ g->Q (.nx,σ,g))->wp (forL t b ds σ g) Q
 | [],i,σ,g,hi,_,he=>by simp only[forL,ba];exact he σ g hi
 |d::ds,i,σ,g,hi,hs,he=>by
  simp only[forL,wp_bind]
  refine wp_mono (hs 0 d σ g rfl hi) λq hq=>wp_mono hq λr hr=>?_
  have go:I (i+0+1) r.2.1 r.2.2->wp (forL t b ds r.2.1 r.2.2) Q:=λz =>
   c7 I ds (i+1) _ _ z (λj d σ g e h=>by
    have q:=hs (j+1) d σ g (by simpa using e) (by rw[show i+(j+1)=i+1+j by omega];exact h)
    rw[show i+(j+1)+1=i+1+j+1 by omega]at q
    exact q) λσ g h=>he σ g (by rw[List.length_cons,show i+(ds.length+1)=i+1+ds.length by omega];exact h)
  obtain⟨r1,r2⟩:=r
  cases r1 with
  |nx=>exact go hr
  |ct=>exact go hr
  |bk=>simp only[ba];exact hr
  |rt d=>simp only[ba];exact hr
theorem eZ {t:FG}{c:FT}{e:FE}{Q:List D×G->Prop}(I:Nat->List D->Sg->G->Prop):∀(ds:List D) (i:Nat) (σ:Sg) (g:G) (acc:List D),I i acc σ g ->
  (∀(j:Nat) (d:D) acc σ g,ds[j]? = some d->I (i+j) acc σ g->wp (t d σ g) λq=>wp (c q.1 q.2) λk=>if k.1=true then wp (e q.1 k.2) λr=>I (i+j+1) (acc ++ [r.1]) q.1 r.2 else I (i+j+1) acc q.1 k.2) ->
  (∀xs σ g,I (i+ds.length) (acc++xs) σ g->Q (xs,g))->wp (cy t c e ds σ g) Q
 | [],i,σ,g,acc,hi,_,he=>by simp only[cy,ba];exact he [] σ g (by simpa using hi)
 |d::ds,i,σ,g,acc,hi,hs,he=>by
  simp only[cy,wp_bind]
  refine wp_mono (hs 0 d acc σ g rfl hi) λq hq=>wp_mono hq λk hk=>?_
  have go:∀(a:List D) (s:Sg) (h:G) (R:List D×G->Prop),I (i+1) a s h->(∀xs σ g,I (i+1+ds.length) (a++xs) σ g->R (xs,g))->wp (cy t c e ds s h) R:=λa s h R z he =>
    eZ I ds (i+1) s h a z (λj d acc σ g e h=>by
     have q:=hs (j+1) d acc σ g (by simpa using e) (by rw[show i+(j+1)=i+1+j by omega];exact h)
     rw[show i+(j+1)+1=i+1+j+1 by omega]at q
     exact q) he
  have hl:i+(d::ds).length=i+1+ds.length:=by rw[List.length_cons];omega
  rw[hl]at he
  by_cases hc:k.1=true
  . rw[if_pos hc]at hk ⊢
    simp only[wp_bind]
    refine wp_mono hk λr hr=>?_
    refine go (acc ++ [r.1]) q.1 r.2 _ hr λxs σ g h=>?_
    simp only[ba]
    exact he (r.1::xs) σ g (by simpa using h)
  . rw[if_neg hc]at hk ⊢
    exact go acc q.1 k.2 _ hk he
theorem wp_run {nN nP:Nat}{b:FS}{ds:List D}{g:G}{Q:D×G->Prop}(hl:ds.length=nP)(h:wp (b (ds.map some++List.replicate (nN-nP) none) g) λr=>match r.1 with
  |.rt d=>r.2.2.length=g.length/\Q (d,r.2.2)
  |.nx=>r.2.2.length=g.length/\Q (.ao,r.2.2)
  |_=>False):wp (av false nN nP b ds g) Q:=by
 obtain⟨⟨r,σ,g'⟩,e,q⟩:=h
 unfold av
 rw[if_pos hl,e]
 cases r with
 |rt d =>
  obtain⟨q1,q2⟩:=q
  dsimp only at q1 q2
  refine⟨_,?_,q2⟩
  simp[settle,q1]
 |nx =>
  obtain⟨q1,q2⟩:=q
  dsimp only at q1 q2
  refine⟨_,?_,q2⟩
  simp[settle,q1]
 |bk=>exact q.elim
 |ct=>exact q.elim
theorem n0 {nN nP:Nat}{b:FS}{ds:List D}{g:G}{Q:D×G->Prop}(hl:ds.length=nP)(h:wp (b (ds.map some++List.replicate (nN-nP) none) g) λr=>match r.1 with
  |.rt d=>dC g.length d=true/\(r.2.2.take g.length).all (bX g.length)=true/\g.length<=r.2.2.length/\Q (d,r.2.2.take g.length)
  |.nx=>(r.2.2.take g.length).all (bX g.length)=true/\g.length<=r.2.2.length/\Q (.ao,r.2.2.take g.length)
  |_=>False):wp (av false nN nP b ds g) Q:=by
 obtain⟨⟨r,σ,g'⟩,e,q⟩:=h
 unfold av
 rw[if_pos hl,e]
 have fin:∀d,dC g.length d=true->(g'.take g.length).all (bX g.length)=true->g.length<=g'.length->Q (d,g'.take g.length)->wp (settle g.length d g') Q:=λd z1 z2 z3 z4=>by
  by_cases hg:g'.length=g.length
  . rw[List.take_of_length_le (by omega)]at z4
    exact⟨_,by unfold settle;rw[if_pos hg],z4⟩
  . refine⟨_,?_,z4⟩
    unfold settle
    rw[if_neg hg,if_pos z2]
    cases d with
    |ref k =>
     have z:k<g.length:=by simpa[dC]using z1
     simp only[if_pos z]
    |_=>simp only[if_pos z1]
 cases r with
 |rt d =>
  obtain⟨q1,q2,q3,q4⟩:=q
  exact fin d q1 q2 q3 q4
 |nx =>
  obtain⟨q2,q3,q4⟩:=q
  exact fin .ao rfl q2 q3 q4
 |bk=>exact q.elim
 |ct=>exact q.elim
end L3
namespace L3
open PySem PySem.Spec PyProof.Rows L2
open SeqAt
theorem mQ {M:Model}{A:Around}{E:Value->Shared->Prop}{s:Shared}{β:Type}(f:Nat->β->Sem (ForInStep β))(I:List Nat->β->Shared->Prop)(Q:β->Shared->Prop){lo hi:Nat}{b:β}
  (turn:∀x rest b s,I (x::rest) b s->wpAny M A (f x b) (λr s'=>match r with|.yield b'=>I rest b' s'|.done b'=>Q b' s') E s)
  (fin:∀b s,I [] b s->Q b s) (h:I (List.range' lo (hi-lo)) b s):wpAny M A (forIn [lo:hi] b f) Q E s:=by
 rw[Std.Legacy.Range.forIn_eq_forIn_range']
 refine wpAny_forIn_list f I Q turn fin _ b ?_
 simpa[Std.Legacy.Range.size]using h
theorem pM (l:Addr)(items:Array Value)(n:Nat)(dd:Option Addr)(sl:Array (Option Value))(x:Value)(e:Value->Bool)(j:Nat)(hj:j<items.size)
  (hit:e items[j]=true) (qF:∀m (hm:m<items.size),m<j->e items[m]=false):
  Meets (Builtin.«tuple.index» ⟨[.ref l,x],[]⟩)
   (λA R s=>s.heap.get? l=some { cls:=.type "tuple",dict:=dd,data:=.seq items n,slots:=sl }/\(∀y,y∈items->EqAt A.in1 s y x (e y))/\R (.ok (.ret (.int j s.toks))) { s with toks:=s.toks+1 }):=
 .of_wp λprog w A R s h=>by
  obtain⟨hp,g,d,tk,os⟩:=s;obtain⟨hl,he,h⟩:=h
  wp_walk using wpAny_loadPart' hl,mQ _ (λrest b s'=>b.1=none/\s'=⟨hp,g,d,tk,os⟩ /\ ∃i,rest=List.range' i (items.size-i)/\i<=j) _
  case turn =>
   rintro y rest b s' ⟨hb,rfl,i,hr,dI⟩
   have aU:i<items.size:=by omega
   have e1:List.range' i (items.size-i)=i::List.range' (i+1) (items.size-(i+1)):=by
     rw[show items.size-i=(items.size-(i+1))+1 by omega,List.range'_succ]
   rw[e1]at hr
   injection hr with h1 h2
   subst h1 h2
   have hg:items[y]? = some items[y]:=by simp[aU]
   rw[hg]
   refine wpAny_bind (he _ (Array.getElem_mem aU) prog w _ _ ?_)
   by_cases hy:y=j
   . subst hy
     rw[hit]
     wp_walk
     exact⟨_,rfl,h⟩
   . rw[qF y aU (by omega)]
     wp_walk
     exact⟨rfl,rfl,y+1,rfl,by omega⟩
  case fin =>
   rintro⟨b1,b2⟩ s' ⟨hb,rfl,i,hr,dI⟩
   have:(List.range' i (items.size-i)).length=0:=by rw[<- hr];rfl
   rw[List.length_range']at this
   omega
  case h=>exact⟨rfl,rfl,0,by simp,Nat.zero_le _⟩
noncomputable def c_:D->Bool
 |.ao=>true
 |.bl _=>true
 |.int _=>true
 |.str _=>true
 |_=>false
noncomputable def toV:D->V
 |.bl b=>.bl b
 |.int i=>.int i
 |.str x=>.str x
 |_=>.ao
theorem e_ {K H ι d v}(h:c_ d=true)(r:Rel K H ι d v):v=toV d/\eC v=true:=by
 cases d with
 |ao=>simp only[Rel]at r;subst r;exact⟨rfl,rfl⟩
 |bl _=>simp only[Rel]at r;subst r;exact⟨rfl,rfl⟩
 |int _=>simp only[Rel]at r;subst r;exact⟨rfl,rfl⟩
 |str _=>simp only[Rel]at r;subst r;exact⟨rfl,rfl⟩
 |_=>cases h
theorem gy {K H ι d}(h:c_ d=true):Rel K H ι d (toV d):=by
 cases d with
 |ao=>simp[Rel,toV]
 |bl _=>simp[Rel,toV]
 |int _=>simp[Rel,toV]
 |str _=>simp[Rel,toV]
 |_=>cases h
theorem jr {K H ι}:∀{xs:List D} {vs:List V},xs.all c_=true->ae K H ι xs vs->vs=xs.map toV/\vs.all eC=true
 | [],vs,_,r=>by simp only[ae]at r;subst r;exact⟨rfl,rfl⟩
 |d::xs,vs,h,r=>by
  simp only[ae]at r
  obtain⟨v,vr,rfl,r1,r2⟩:=r
  rw[List.all_cons,Bool.and_eq_true]at h
  obtain⟨e1,f1⟩:=e_ h.1 r1
  obtain⟨e2,f2⟩:=jr h.2 r2
  subst e1 e2
  exact⟨rfl,by rw[List.all_cons,f1,f2];rfl⟩
theorem jt {K H ι}:∀{xs:List D},xs.all c_=true->ae K H ι xs (xs.map toV)
 | [],_=>by simp[ae]
 |d::xs,h=>by
  rw[List.all_cons,Bool.and_eq_true]at h
  simp only[List.map_cons,ae]
  exact⟨_,_,rfl,gy h.1,jt h.2⟩
theorem CB {a b:D}(ha:c_ a=true)(hb:c_ b=true):oO (toV a) (toV b)=au a b:=by
 cases a<;>cases b<;>first| (simp[toV,oO,au];done)| (simp[c_]at ha;done)| (simp[c_]at hb;done)
def lY (K:KW)(d:D)(v:V):Prop:=(c_ d=true/\v=toV d) \/
 ∃xs a o ah n,d = .tup xs/\xs.all c_=true/\v = .ref a/\K.fr.lookup a=some o/\o.cls = .type "tuple" /\ o.dict=none/\o.data = .seq ah n/\ah.size<=sizeLine/\Vals (xs.map toV) ah.toList
theorem lY.rel {K H ι d v}(h:lY K d v):Rel K H ι d v:=by
 rcases h with⟨h,rfl⟩|⟨xs,a,o,ah,n,rfl,hx,rfl,h1,h2,h3,h4,h5,h6⟩
 . exact gy h
 . simp only[Rel]
   exact⟨a,_,rfl,.inr ⟨o,ah,n,h1,h2,h3,h4,h5,h6⟩,jt hx⟩
noncomputable def fH (w:World)(K:KW):List DictEntry->List (Str×D)->Prop
 | [],aG=>aG = []
 |e::es,aG=>∃x d rest,aG=(x,d)::rest/\(∃t,e.key = .str x t)/\e.hash=hashStr w x/\(∃v,RelV v e.val/\lY K d v)/\fH w K es rest
structure bU (w:World)(K:KW)(a:Addr)(aG:List (Str×D)):Prop where
 ex:∃o es ep,K.fr.lookup a=some o/\o.ExactDict/\o.data = .dict es ep/\fH w K es.toList aG
 sys:(a == sysModules)=false
noncomputable def dG (aG:List (Str×D))(x:Str):Option D:=(aG.find? λp=>decide (p.1=x)).map (·.2)
theorem fH.keys {P:Program}{w:World}{K:KW}:∀{es:List DictEntry} {aG:List (Str×D)},fH w K es aG->∀e∈es,∃k,(cO P w).is k e.key=true/\e.hash=(cO P w).hash k
 | [],_,_,e,he=>nomatch he
 |e0::es,aG,h,e,he=>by
  obtain⟨x,d,rest,rfl,⟨t,hk⟩,hh,_,hr⟩:=h
  rcases List.mem_cons.mp he with rfl|he
  . exact⟨.inr x,by rw[hk];exact fE P w x t,hh⟩
  . exact hr.keys e he
theorem Il {P:Program}{w:World}{x y:Str}{t:Tok}:(cO P w).is (.inr x) (.str y t)=decide (y=x):=by
 show Value.isStrOf x (.str y t)=_
 by_cases h:y=x
 . subst h;simp[Value.isStrOf]
 . simp[Value.isStrOf,h,Ne.symm h]
theorem fH.find {P:Program}{w:World}{K:KW}{x:Str}:∀{es:List DictEntry} {aG:List (Str×D)},fH w K es aG ->
  match dG aG x with
  |some d=>∃u v,(es.find? λe=>(cO P w).is (.inr x) e.key).map (·.val)=some u/\RelV v u/\lY K d v
  |none=>(es.find? λe=>(cO P w).is (.inr x) e.key).map (·.val)=none
 | [],aG,h=>by
  have h':aG = []:=h
  subst h'
  rfl
 |e0::es,aG,h=>by
  obtain⟨y,d,rest,rfl,⟨t,hk⟩,hh,⟨v,rv,kv⟩,hr⟩:=h
  have ih:=hr.find (P:=P) (x:=x)
  have hi:(cO P w).is (.inr x) e0.key=decide (y=x):=by rw[hk];exact Il
  unfold dG at ih ⊢
  rw[List.find?_cons,List.find?_cons]
  by_cases hy:y=x
  . subst hy
    simp only[decide_true,hi]
    exact⟨_,v,rfl,rv,kv⟩
  . simp only[hy,decide_false,hi]
    exact ih
theorem bU.map {P:Program}{w:World}{K:KW}{a:Addr}{aG:List (Str×D)}(h:bU w K a aG){hp:Heap}(hk:K.fr.In hp):∃f,hp.MapOf (cO P w) a f /\ ∀x:Str,match dG aG x with
  |some d=>∃u v,f (.inr x)=some u/\RelV v u/\lY K d v
  |none=>f (.inr x)=none:=by
 obtain⟨o,es,ep,h1,h2,h3,h4⟩:=h.ex
 refine⟨_,⟨o,es,ep,hk a o h1,h2,h3,λe he=>h4.keys e (by simpa using he),λk=>rfl⟩,λx=>?_⟩
 have:=h4.find (P:=P) (x:=x)
 unfold findBy
 rw[<- Array.find?_toList]
 exact this
noncomputable def wH (aG:List (Str×D))(fe:FE):FE:=λσ g=>(fe σ g).bind λr=>match r.1 with|.str x=>(dG aG x).map λd=>(d,r.2)|_=>none
noncomputable def N3 (K:KW)(a:Addr)(aG:List (Str×D)):R2:=λx y H Q=>∃k d,x = .ref a/\y = .str k/\dG aG k=some d /\ ∀v,lY K d v->Q v H
section
variable {X:Cx}{a:Addr}{aG:List (Str×D)}
theorem yJ (hD:bU X.w X.kw a aG):jI X (N3 X.kw a aG):=by
 intro value slice pins s σ H x y v u Q I rx ry h hs
 obtain⟨k,d,rfl,rfl,hd,q⟩:=h
 cases rx
 obtain⟨f,hm,hf⟩:=hD.map (P:=X.prog) I.dB
 have hx:=hf k
 rw[hd]at hx
 obtain⟨w',v',h1,h2,h3⟩:=hx
 obtain⟨t,rfl⟩:=ry
 exact subscriptTail_builtinR (x:=w') hm.typeIs slot_dict_getitem.lookup
  (wpAny_getItem_of (k:=(.inr k:Key)) (Q:=λr s'=>r=w'/\EP X pins σ Q r s') (fE X.prog X.w k t) hm h1 ⟨rfl,v',H,I.tok _,h2,q v' h3⟩) hs
theorem EJ {C:Str}{p pos:Pos}{e:Expr}{fe:FE}(hD:bU X.w X.kw a aG)(hm:X.mg C=some (.ref a))(he:DE X e fe)(hg:Gl X C:=by rfl)(hs:iG e:=by exact λ_ _=>rfl)(hd:(C == ("__debug__":Str))=false:=by decide):
  DE X (.Subscript (.Name C p) e pos) (wH aG fe):=.of (
 PE.imp (v7 (yJ hD) (d5 (v:=.ref a) hg hm rfl hd) he.un hs) λσ H Q h=>by
  obtain⟨ι,σd,g,d,g',G0,S0,h,p⟩:=h
  obtain⟨⟨d1,g1⟩,h1,h⟩:=bind_some h
  refine tD.bind G0 S0 h1 λH1 ι1 v e1 G1 S1 r1=>?_
  dsimp only at h
  cases d1 with
  |str x =>
   simp only[Rel]at r1
   subst r1
   dsimp only at h
   cases hx:dG aG x with
   |none=>rw[hx]at h;cases h
   |some d2 =>
    rw[hx]at h
    cases h
    exact⟨x,_,rfl,rfl,hx,λv kv=>p H1 ι1 v e1 G1 kv.rel⟩
  |_=>cases h)
noncomputable def yK (a:Addr)(aG:List (Str×D))(neg:Bool):R2:=λx y H Q=>∃k,x = .str k/\y = .ref a/\Q (.bl (if neg then !(dG aG k).isSome else(dG aG k).isSome)) H
theorem Bd (hD:bU X.w X.kw a aG):aX X (compareOp .In) (yK a aG false):=by
 intro pins s σ H x y v u Q I rx ry h
 obtain⟨k,rfl,rfl,q⟩:=h
 obtain⟨t,rfl⟩:=rx
 cases ry
 obtain⟨f,hm,hf⟩:=hD.map (P:=X.prog) I.dB
 refine wpAny_in_of (k:=(.inr k:Key)) (fE X.prog X.w k t) hD.sys hm ⟨.bl _,H,I.tok _,rfl,?_⟩
 have hx:=hf k
 cases hg:dG aG k with
 |none=>rw[hg]at hx;rw[hx];rw[hg]at q;exact q
 |some d =>
  rw[hg]at hx
  obtain⟨w',v',h1,_⟩:=hx
  rw[h1];rw[hg]at q;exact q
theorem uc (hD:bU X.w X.kw a aG):aX X (compareOp .NotIn) (yK a aG true):=by
 intro pins s σ H x y v u Q I rx ry h
 obtain⟨k,rfl,rfl,q⟩:=h
 obtain⟨t,rfl⟩:=rx
 cases ry
 obtain⟨f,hm,hf⟩:=hD.map (P:=X.prog) I.dB
 refine wpAny_notIn_of (k:=(.inr k:Key)) (fE X.prog X.w k t) hD.sys hm ⟨.bl _,H,I.tok _,rfl,?_⟩
 have hx:=hf k
 cases hg:dG aG k with
 |none=>rw[hg]at hx;rw[hx];rw[hg]at q;exact q
 |some d =>
  rw[hg]at hx
  obtain⟨w',v',h1,_⟩:=hx
  rw[h1];rw[hg]at q;exact q
noncomputable def lZ (xs:List D)(d:D):Option Nat:=xs.findIdx? λy=>au y d
noncomputable def pZ (aG:List (Str×D))(fe fx:FE):FE:=λσ g=>(fe σ g).bind λr=>match r.1 with
 |.str x=>match dG aG x with
  |some (.tup xs)=>(fx σ r.2).bind λq=>if(c_ q.1&&xs.all c_)=true then(lZ xs q.1).map λj=>(.int j,q.2)else none
  |_=>none
 |_=>none
noncomputable def Lc (K:KW):V->List V->Hp->VK->Prop:=λx vs H Q=>∃xs y j,lY K (.tup xs) x/\vs = [toV y]/\c_ y=true/\xs.all c_=true/\lZ xs y=some j/\Q (.int j) H
theorem yL:B8 X "tuple.index" (Lc X.kw):=by
 intro pins s σ H x vs v us Q I rx rv h
 obtain⟨xs,y,j,hk,rfl,hy,hx,hj,q⟩:=h
 rcases hk with⟨hk,_⟩|⟨yM,a,o,ah,n,e0,uv,rfl,h1,h2,h3,h4,h5,h6⟩
 . cases hk
 cases e0
 cases rx
 obtain⟨u,rfl,ru⟩:=rv.one
 have hg:=I.dB a o h1
 obtain⟨cls,dd,data,sl⟩:=o
 simp only at h2 h3 h4
 subst h2 h3 h4
 have fy:eC (toV y)=true:=(e_ hy (gy (K:=X.kw) (H:=H) (ι:=⟨[],[],λ_=>0⟩) hy)).2
 have fx:(xs.map toV).all eC=true:=(jr hx (jt (K:=X.kw) (H:=H) (ι:=⟨[],[],λ_=>0⟩) hx)).2
 unfold lZ at hj
 rw[List.findIdx?_eq_some_iff_getElem]at hj
 obtain⟨aU,hit,qF⟩:=hj
 have hlen:(xs.map toV).length=ah.toList.length:=h6.length
 rw[List.length_map]at hlen
 have cX:j<ah.size:=by rw[<- Array.length_toList];omega
 have item:∀m (hm:m<xs.length) (hW:m<ah.size),uB (toV y) ah[m]=au xs[m] y:=λm hm hW=>by
   obtain⟨u',e',r'⟩:=h6.get (i:=m) (x:=toV xs[m]) (by rw[List.getElem?_map,List.getElem?_eq_getElem hm];rfl)
   rw[Array.getElem?_toList,Array.getElem?_eq_getElem hW]at e'
   cases e'
   have fm:c_ xs[m]=true:=List.all_eq_true.mp hx _ (List.getElem_mem hm)
   rw[qH r' (e_ fm (gy (K:=X.kw) (H:=H) (ι:=⟨[],[],λ_=>0⟩) fm)).2,CB fm hy]
 refine call_meets F.slot_tuple_index ⟨_,hg,rfl⟩ F.entry_tuple_index (F.args_tuple_index_2 _ _) (pM a ah n none sl u (uB (toV y)) j cX (by rw[item j aU cX];exact hit) (λm hm Im=>by
   have j3:m<xs.length:=by omega
   rw[item m j3 hm]
   simpa using qF m Im)) ⟨hg,λz hz=>lQ ru fy h6 fx z (by simpa using hz),?_⟩
 exact⟨.int j,H,I.tok _,⟨_,rfl⟩,q⟩
theorem EK {C:Str}{p pos apos bL:Pos}{e x:Expr}{fe fx:FE}(hD:bU X.w X.kw a aG)(hm:X.mg C=some (.ref a))(he:DE X e fe)(hx:DE X x fx)(hg:Gl X C:=by rfl)(hs:iG e:=by exact λ_ _=>rfl)(hd:(C == ("__debug__":Str))=false:=by decide)
  (jf:attributeBase (.Subscript (.Name C p) e pos) "index" X.env (eval (.Subscript (.Name C p) e pos) X.env)=eval (.Subscript (.Name C p) e pos) X.env:=by rfl)
  (qK:((backTo bL (starEach [x] X.env)).all (λx=>!x.1)&&(backToKw bL (keywordEach [] X.env)).all (λx=>x.1.isSome)
   && decide ([x].length+([]:List Keyword).length+(if([]:List Keyword).isEmpty then 0 else 1)<30))=true:=by rfl)
  (jg:(apos.endLine == bL.line)=true:=by rfl) (cA:starEach [x] X.env=(false,eval x X.env)::starEach [] X.env:=by rfl):
  DE X (.Call (.Attribute (.Subscript (.Name C p) e pos) "index" apos) [x] [] bL) (pZ aG fe fx):=.of (
 PE.imp (KH PySem.F.plainAttrs_tuple PySem.F.slot_tuple_index PySem.F.type_tuple_index yL (v7 (yJ hD) (d5 (v:=.ref a) hg hm rfl hd) he.un hs) (iF hx.un mz cA) jf qK jg cA (by rfl)) λσ H Q h=>by
  obtain⟨ι,σd,g,d,g',G0,S0,h,p⟩:=h
  obtain⟨⟨d1,g1⟩,h1,h⟩:=bind_some h
  refine tD.bind G0 S0 h1 λH1 ι1 v e1 G1 S1 r1=>?_
  cases d1 with
  |str k =>
   simp only[Rel]at r1
   subst r1
   dsimp only at h
   cases hk:dG aG k with
   |none=>rw[hk]at h;cases h
   |some d2 =>
    rw[hk]at h
    cases d2 with
    |tup xs =>
     dsimp only at h
     obtain⟨⟨d3,g3⟩,h3,h⟩:=bind_some h
     refine⟨k,_,rfl,rfl,hk,λv kv=>⟨?_,?_⟩⟩
     . rcases kv with⟨kv,_⟩|⟨yM,a',o,ah,n,e0,uv,rfl,q1,q2,q3,q4,q5,q6⟩
       . cases kv
       . exact .inr (.inl ⟨rfl,o,q1,q2,q3⟩)
     . refine tD.bind G1 S1 h3 λH2 ι2 u e2 G2 S2 r2=>?_
       dsimp only at h
       split at h
       . rename_i z
         rw[Bool.and_eq_true]at z
         cases hj:lZ xs d3 with
         |none=>rw[hj]at h;cases h
         |some j =>
          rw[hj]at h
          cases h
          refine⟨xs,d3,j,kv,by rw[(e_ z.1 r2).1],z.1,z.2,hj,p H2 ι2 _ (e1.trans e2) G2 (by simp[Rel])⟩
       . cases h
    |_=>cases h
  |_=>cases h)
end
end L3
namespace L3
open PySem PySem.Spec PyProof.Rows L2
theorem rV (l:Addr)(items:Array Value)(n:Nat)(b:Addr)(bY:Array Value)(n2:Nat)(sl:Array (Option Value))(QU:¬(!items.isEmpty&&Builtin.List.listTooLong (items.size+bY.size))=true)(Q4:items.size<=sizeLine)(ux:items.size+bY.size<=sizeLine+1):
  Meets (Builtin.«list.extend» ⟨[.ref l,.ref b],[]⟩) (λ_ R s=>s.heap.get? l=some { cls:=.type "list",dict:=none,data:=.seq items n,slots:=#[] }/\s.heap.get? b=some { cls:=.type "list",dict:=none,data:=.seq bY n2,slots:=sl }/\R (.ok (.ret Value.none)) { s with heap:=s.heap.update l (Obj.mapSeq λx=>x++bY),toks:=s.toks }):=
 .of_wp λprog w A R s h=>by
  obtain⟨hp,g,d,tk,os⟩:=s;obtain⟨hl,hb,h⟩:=h
  have f1:=AutoSeq1.idx_int
  have f2:=AutoSeq1.sub_tuple_tuple
  have f3:=AutoSeq1.sub_list_list
  have f4:=AutoSeq1.sub_tuple_list
  have f5:=AutoSeq1.sub_list_tuple
  have Q5:(items++bY).size<=sizeLine+1:=by rw[Array.size_append];exact ux
  wp_walk using (wpAny_updateSeq hl rfl (hz:=Q4) (_hz':=Q5)),wpAny_loadPart' hl,wpAny_loadPart' hb
  exact⟨_,rfl,h⟩
section
variable {X:Cx}
noncomputable def Be (K:KW):V->List V->Hp->VK->Prop:=λx vs H Q=>∃l b xs zs,x = .ref l/\vs = [.ref b]/\H l=some (.lst xs)/\b7 K H b zs/\xs.length+zs.length<=sizeLine/\Q .ao (upd H l (.lst (xs++zs)))
theorem wI:LU X "list.extend" (Be X.kw):=by
 intro pins s σ H x vs v us Q I rx rv h
 obtain⟨l,b,xs,zs,rfl,rfl,hH,hB,hz,q⟩:=h
 cases rx
 obtain⟨u,rfl,ru⟩:=rv.one
 cases ru
 obtain⟨z,ah,n,r,hl,e⟩:=I.GN hH
 obtain⟨eB,r2,p2,_⟩:=I.list hB
 obtain⟨⟨vX,jG,data2,hU⟩,n2,e2,f_,rP,hd2⟩:=id p2
 simp only at f_ hd2 rP
 subst f_ hd2 rP
 have Qw:=r2.length
 have cX:ah.toArray.size+eB.toArray.size<=sizeLine:=by rw[List.size_toArray,List.size_toArray];omega
 have Ld:¬(!ah.toArray.isEmpty&&Builtin.List.listTooLong (ah.toArray.size+eB.toArray.size))=true:=by
  rw[AI cX,Bool.and_false]
  exact Bool.false_ne_true
 refine call_meets F.slot_list_extend ⟨_,e,rfl⟩ F.entry_list_extend (F.args_list_extend_2 _ _)
  (rV l ah.toArray n b eB.toArray n2 hU Ld (by rw[List.size_toArray];omega) (by omega)) ⟨e,e2,?_⟩
 refine⟨.ao,_,I.GL (its':=ah++eB) hH e (by simp) (r.append r2) ?_,rfl,q⟩
 rw[List.length_append]
 omega
variable {o x:Expr}{fo fx:FE}{apos bL:Pos}
end
section
variable {X:Cx}
noncomputable def rW (i j:Nat)(fr:FA):FS:=λσ g=>(fr σ g).bind λr=>match r.1 with
 | [a,b]=>some (.nx,(σ.set i (some a)).set j (some b),r.2)
 |_=>none
theorem Io {i j:Nat}{x y:Str}{a b:Expr}{fr:FA}{px py pt pos:Pos}{kt k2 jV}(hc:X.calm=true)(hN:X.N.Nodup)(hi:X.N[i]? = some x)(hj:X.N[j]? = some y)(dI:i≠j)
  (hx:X.env.scope.names.lookup x=some .local) (hy:X.env.scope.names.lookup y=some .local) (ha:DA X [a,b] fr)
  (hw:swappedStores [.Tuple [.Name x px,.Name y py] kt pt] (.Tuple [a,b] k2 jV) X.env=pure (some [x,y]))
  (hs:swapsWithSole [.Tuple [.Name x px,.Name y py] kt pt] (.Tuple [a,b] k2 jV) pos.line X.env=pure false:=by rfl):
  DS X (.Assign [.Tuple [.Name x px,.Name y py] kt pt] (.Tuple [a,b] k2 jV) pos) (rW i j fr):=.of (
 PS.imp (Ga hc hN hi hj dI hx hy ha.un hw hs) λDn σ H h=>by
  obtain⟨ι,σd,g,r,bB,g',G0,S0,h,p⟩:=h
  obtain⟨⟨ds,g1⟩,h1,h⟩:=bind_some h
  refine gi.bind G0 S0 h1 λH1 ι1 vs e1 G1 S1 r1=>?_
  dsimp only at h
  split at h
  . rename_i a b
    cases h
    simp only[ae]at r1
    obtain⟨v,vr,rfl,ra,u,ur,rfl,rb,rfl⟩:=r1
    exact⟨v,u,rfl,p H1 ι1 e1 G1 _ ((S1.set ra i).set rb j)⟩
  . cases h)
end
section
variable {σ:Sg}{g:G}{fa fb fo fx:FE}{fr:FA}
@[simp] theorem PY {i j:Nat}:rW i j fr σ g=(fr σ g).bind λr=>match r.1 with
 | [a,b]=>some (.nx,(σ.set i (some a)).set j (some b),r.2)
 |_=>none:=rfl
@[simp] theorem N4 {aG:List (Str×D)}:wH aG fa σ g=(fa σ g).bind λr=>match r.1 with|.str x=>(dG aG x).map λd=>(d,r.2)|_=>none:=rfl
end
theorem Bf {prog:Program}{w:World}{A:Around}{E:Value->Shared->Prop}{s:Shared}{Q:Int->Shared->Prop}(h:Q 4238894112 { s with toks:=s.toks+1 }):wpAny (model prog w) A (pyHash .none) Q E s:=by
 unfold pyHash
 have hv:[Value.none].any Value.onHeap=false:=rfl
 refine wpAny_bind ?_
 rw[cRoomFor,if_neg (by rw[hv];exact Bool.false_ne_true)]
 refine wpAny_pure (wpAny_bind (wpAny_specialOf (typeIs_none s) F.slot_NoneType_hash.lookup ?_))
 change wpAny _ _ (if(some (Value.builtin "NoneType.__hash__")== some Value.none)=true then _ else _) Q E s
 rw[if_neg (by rw[beq_builtin_none];exact Bool.false_ne_true)]
 refine wpAny_bind (wpAny_specialOf (typeIs_none s) F.slot_NoneType_hash.lookup ?_)
 change wpAny _ _ (callSpecialIfBoundUnlessNone? .none "__hash__" _ >>= λ_=>_) Q E s
 refine wpAny_bind (wpAny_callSpecialIfBoundUnlessNone?_slot (typeIs_none s) F.slot_NoneType_hash (wpAny_call_entry F.slot_NoneType_hash (typeIs_none s) F.entry_NoneType_hash (show wpAny _ _ (do ret (<- mkInt 0xFCA86420)) _ _ s from wpAny_ret_mkInt ?_) (F.args_NoneType_hash_1 _)))
 exact wpAny_pure h
abbrev rX:=Option Str
noncomputable def rY:rX->Value->Bool
 |none,v=>v == Value.none
 |some x,v=>Value.isStrOf x v
theorem bG:∀{k:rX} {v:Value},rY k v=true->(k=none/\v = .none) \/ ∃x t,k=some x/\v=Value.str x t
 |none,v,h=>.inl ⟨rfl,by simpa[rY]using h⟩
 |some x,v,h=>by
  obtain⟨t,e⟩:=Value.isStrOf_shape (x:=x) (v:=v) h
  exact .inr ⟨x,t,rfl,e⟩
noncomputable def kI (prog:Program)(w:World):PySem.KeyKind prog w rX where
 is:=rY
 hash:=λk=>match k with|none=>4238894112|some x=>hashStr w x
 inj:=λv a b ha hb=>by
  rcases bG ha with⟨rfl,rfl⟩|⟨x,t,rfl,rfl⟩
  . rcases bG hb with⟨rfl,e⟩|⟨y,u,rfl,e⟩
    . rfl
    . exact nomatch e
  . rcases bG hb with⟨rfl,e⟩|⟨y,u,rfl,e⟩
    . exact nomatch e
    . injection e with e1 _;rw[e1]
 byValue:=λk v h=>by
  rcases bG h with⟨rfl,rfl⟩|⟨x,t,rfl,rfl⟩<;>rfl
 pyHash:=λhv h=>by
  rcases bG hv with⟨rfl,rfl⟩|⟨x,t,rfl,rfl⟩
  . exact Bf h
  . exact wpAny_pyHash_str h
 eqBool:=λhu hv h=>by
  rcases bG hu with⟨rfl,rfl⟩|⟨x,t,rfl,rfl⟩
  . rcases bG hv with⟨rfl,rfl⟩|⟨y,u,rfl,rfl⟩
    . exact SeqAt.EqAt.same _ _ _ _ _ h
    . exact SeqAt.EqAt.none_str y u _ _ _ _ h
  . rcases bG hv with⟨rfl,rfl⟩|⟨y,u,rfl,rfl⟩
    . exact SeqAt.EqAt.str_none x t _ _ _ _ h
    . exact wpAny_eqBool_str (by simpa using h)
 «strs»:=λk x t v h=>by
  rcases bG h with⟨rfl,e⟩|⟨y,u,rfl,e⟩
  . exact nomatch e
  . injection e with e1 _
    subst e1
    cases v<;>rfl
theorem fH.CC {P:Program}{w:World}{K:KW}:∀{es:List DictEntry} {aG:List (Str×D)},fH w K es aG->∀e∈es,∃k,(kI P w).is k e.key=true/\e.hash=(kI P w).hash k
 | [],_,_,e,he=>nomatch he
 |e0::es,aG,h,e,he=>by
  obtain⟨x,d,rest,rfl,⟨t,hk⟩,hh,_,hr⟩:=h
  rcases List.mem_cons.mp he with rfl|he
  . refine⟨some x,?_,hh⟩
    rw[hk]
    show Value.isStrOf x (.str x t)=true
    simp[Value.isStrOf]
  . exact hr.CC e he
theorem fH.CD {P:Program}{w:World}{K:KW}:∀{es:List DictEntry} {aG:List (Str×D)},fH w K es aG->(es.find? λe=>(kI P w).is none e.key)=none
 | [],aG,h=>rfl
 |e0::es,aG,h=>by
  obtain⟨y,d,rest,rfl,⟨t,hk⟩,hh,_,hr⟩:=h
  rw[List.find?_cons,hk]
  exact hr.CD
section
variable {X:Cx}{a:Addr}{aG:List (Str×D)}
theorem bU.Ip {P:Program}{w:World}{K:KW}(h:bU w K a aG){hp:Heap}(hk:K.fr.In hp):∃f,hp.MapOf (kI P w) a f/\f none=none:=by
 obtain⟨o,es,ep,h1,h2,h3,h4⟩:=h.ex
 refine⟨_,⟨o,es,ep,hk a o h1,h2,h3,λe he=>h4.CC e (by simpa using he),λk=>rfl⟩,?_⟩
 unfold findBy
 rw[<- Array.find?_toList,h4.CD]
 rfl
noncomputable def gD (aG:List (Str×D)):D->Option Bool
 |.str x=>some (dG aG x).isSome
 |.ao=>some false
 |_=>none
noncomputable def kJ (aG:List (Str×D))(fe:FE):FE:=λσ g=>(fe σ g).bind λr=>(gD aG r.1).map λb=>(.bl b,r.2)
noncomputable def fg (aG:List (Str×D))(fe:FE):FE:=λσ g=>(fe σ g).bind λr=>(gD aG r.1).map λb=>(.bl (!b),r.2)
noncomputable def n4 (a:Addr)(aG:List (Str×D))(neg:Bool):R2:=λx y H Q=>y = .ref a/\((∃k,x = .str k/\Q (.bl (if neg then !(dG aG k).isSome else(dG aG k).isSome)) H)\/(x = .ao/\Q (.bl neg) H))
theorem oY (hD:bU X.w X.kw a aG):aX X (compareOp .In) (n4 a aG false):=by
 intro pins s σ H x y v u Q I rx ry h
 obtain⟨rfl,⟨k,rfl,q⟩|⟨rfl,q⟩⟩:=h
 . exact Bd hD pins s σ H _ _ v u Q I rx ry ⟨k,rfl,rfl,q⟩
 . cases rx
   cases ry
   obtain⟨f,hm,hf⟩:=hD.Ip (P:=X.prog) I.dB
   refine wpAny_in_of (k:=(none:rX)) (by rfl) hD.sys hm ⟨.bl _,H,I.tok _,rfl,?_⟩
   rw[hf];exact q
theorem ka (hD:bU X.w X.kw a aG):aX X (compareOp .NotIn) (n4 a aG true):=by
 intro pins s σ H x y v u Q I rx ry h
 obtain⟨rfl,⟨k,rfl,q⟩|⟨rfl,q⟩⟩:=h
 . exact uc hD pins s σ H _ _ v u Q I rx ry ⟨k,rfl,rfl,q⟩
 . cases rx
   cases ry
   obtain⟨f,hm,hf⟩:=hD.Ip (P:=X.prog) I.dB
   refine wpAny_notIn_of (k:=(none:rX)) (by rfl) hD.sys hm ⟨.bl _,H,I.tok _,rfl,?_⟩
   rw[hf];exact q
theorem ju {K}{fe:FE}{σ:L2.St}{H:Hp}{Q:VK}{neg:Bool}{f:FE}(hf:f=if neg then fg aG fe else kJ aG fe)(h:tD K f σ H Q):uy (n4 a aG neg) (tD K fe) (tC (.ref a)) σ H Q:=by
 subst hf
 obtain⟨ι,σd,g,d,g',G0,S0,h,p⟩:=h
 have h':((fe σd g).bind λr=>(gD aG r.1).map λb=>(D.bl (if neg then !b else b),r.2))=some (d,g'):=by cases neg<;>exact h
 obtain⟨⟨d1,g1⟩,h1,h⟩:=bind_some h'
 refine tD.bind G0 S0 h1 λH1 ι1 v e1 G1 S1 r1=>⟨rfl,?_⟩
 cases d1 with
 |str x =>
  simp only[Rel]at r1
  subst r1
  cases h
  exact .inl ⟨x,rfl,p H1 ι1 _ e1 G1 (by simp[Rel])⟩
 |ao =>
  simp only[Rel]at r1
  subst r1
  cases h
  refine .inr ⟨rfl,p H1 ι1 _ e1 G1 ?_⟩
  simp only[Rel]
  cases neg<;>rfl
 |_=>cases h
theorem EL {C:Str}{p pos:Pos}{e:Expr}{fe:FE}(hD:bU X.w X.kw a aG)(hm:X.mg C=some (.ref a))(he:DE X e fe)(hg:Gl X C:=by rfl)(hd:(C == ("__debug__":Str))=false:=by decide)(hk:behindInMarks .In (.Name C p)=false:=by with_unfolding_all rfl):
 DE X (.Compare e [.In] [.Name C p] pos) (kJ aG fe):=.of (PE.imp (nM (oY hD) he.un (d5 (v:=.ref a) hg hm rfl hd) hk) λσ H Q h=>ju (neg:=false) rfl h)
theorem EM {C:Str}{p pos:Pos}{e:Expr}{fe:FE}(hD:bU X.w X.kw a aG)(hm:X.mg C=some (.ref a))(he:DE X e fe)(hg:Gl X C:=by rfl)(hd:(C == ("__debug__":Str))=false:=by decide)(hk:behindInMarks .In (.Name C p)=false:=by with_unfolding_all rfl):
 DT X (.Compare e [.In] [.Name C p] pos) (ay (kJ aG fe)):=.of (PT.imp (nO (oY hD) he.un (d5 (v:=.ref a) hg hm rfl hd) hk) λσ H Q h=>jl (λ_ _ _=>ju (neg:=false) rfl) (lT h))
theorem wJ {C:Str}{p pos:Pos}{e:Expr}{fe:FE}(hD:bU X.w X.kw a aG)(hm:X.mg C=some (.ref a))(he:DE X e fe)(hg:Gl X C:=by rfl)(hd:(C == ("__debug__":Str))=false:=by decide)(hk:behindInMarks .NotIn (.Name C p)=false:=by with_unfolding_all rfl):
 DE X (.Compare e [.NotIn] [.Name C p] pos) (fg aG fe):=.of (PE.imp (nM (ka hD) he.un (d5 (v:=.ref a) hg hm rfl hd) hk) λσ H Q h=>ju (neg:=true) rfl h)
theorem wK {C:Str}{p pos:Pos}{e:Expr}{fe:FE}(hD:bU X.w X.kw a aG)(hm:X.mg C=some (.ref a))(he:DE X e fe)(hg:Gl X C:=by rfl)(hd:(C == ("__debug__":Str))=false:=by decide)(hk:behindInMarks .NotIn (.Name C p)=false:=by with_unfolding_all rfl):
 DT X (.Compare e [.NotIn] [.Name C p] pos) (ay (fg aG fe)):=.of (PT.imp (nO (ka hD) he.un (d5 (v:=.ref a) hg hm rfl hd) hk) λσ H Q h=>jl (λ_ _ _=>ju (neg:=true) rfl) (lT h))
end
section
variable {σ:Sg}{g:G}{fa fb:FE}
@[simp] theorem N5 {aG:List (Str×D)}:kJ aG fa σ g=(fa σ g).bind λr=>(gD aG r.1).map λb=>(.bl b,r.2):=rfl
@[simp] theorem Kh {aG:List (Str×D)}:fg aG fa σ g=(fa σ g).bind λr=>(gD aG r.1).map λb=>(.bl (!b),r.2):=rfl
@[simp] theorem Le:iw .ao g=some false:=rfl
@[simp] theorem Lf {xs:List D}:iw (.tup xs) g=some (!xs.isEmpty):=rfl
@[simp] theorem Lg {xs:List D}:iw (.lst xs) g=some (!xs.isEmpty):=rfl
end
def nK (cs:List Addr)(h h':Heap):Prop:=∀c o,c ∉ cs->h.get? c=some o->h'.get? c=some o
section
variable {X:Cx}
section
open SeqAt
variable {pins:List (Addr×Obj)}{σ:L2.St}{H:Hp}{s:Shared}{ι:Ix}
theorem yN (I:Inv X pins σ H s):∀(d1 d2:D) {A:Around} {x y:V} {u v:Value},flat d1=true->flat d2=true->Rel X.kw H ι d1 x->Rel X.kw H ι d2 y->RelV x u->RelV y v->A.units+dep d1<cLine->RcNeAt A s u v (!au d1 d2)
 |.ao,d2,A,x,y,u,v,_,f2,r1,r2,ru,rv,hu=>by
  simp only[Rel]at r1;subst r1;cases ru
  cases d2 with
  |ao=>simp only[Rel]at r2;subst r2;cases rv;simp only[au,Bool.not_true,Bool.not_false];exact .none_none
  |bl b=>simp only[Rel]at r2;subst r2;cases rv;simp only[au,Bool.not_true,Bool.not_false];exact .none_bool b
  |int b=>simp only[Rel]at r2;subst r2;obtain⟨t,rfl⟩:=rv;simp only[au,Bool.not_true,Bool.not_false];exact .none_int b t
  |str b=>simp only[Rel]at r2;subst r2;obtain⟨t,rfl⟩:=rv;simp only[au,Bool.not_true,Bool.not_false];exact .none_str b t
  |tup ys=>simp only[Rel]at r2;obtain⟨a',ws,rfl,hq,hr⟩:=r2;cases rv;obtain⟨ah,_,ht,_⟩:=I.tuple hq.sq;simp only[au,Bool.not_true,Bool.not_false];exact .none_tuple ht (by omega)
  |lst ys=>simp only[Rel]at r2;obtain⟨a',ws,rfl,hq,hr⟩:=r2;cases rv;obtain⟨ah,_,ht,_⟩:=I.list hq.sq;simp only[au,Bool.not_true,Bool.not_false];exact .none_list ht.isList (by omega)
  |_=>cases f2
 |.bl a,d2,A,x,y,u,v,_,f2,r1,r2,ru,rv,hu=>by
  simp only[Rel]at r1;subst r1;cases ru
  cases d2 with
  |ao=>simp only[Rel]at r2;subst r2;cases rv;simp only[au,Bool.not_true,Bool.not_false];exact .bool_none a
  |bl b=>simp only[Rel]at r2;subst r2;cases rv;simp only[au,Bool.not_true,Bool.not_false];exact .bool_bool a b
  |int b=>simp only[Rel]at r2;subst r2;obtain⟨t,rfl⟩:=rv;simp only[au,Bool.not_true,Bool.not_false];exact .bool_int a b t
  |str b=>simp only[Rel]at r2;subst r2;obtain⟨t,rfl⟩:=rv;simp only[au,Bool.not_true,Bool.not_false];exact .bool_str a b t
  |tup ys=>simp only[Rel]at r2;obtain⟨a',ws,rfl,hq,hr⟩:=r2;cases rv;obtain⟨ah,_,ht,_⟩:=I.tuple hq.sq;simp only[au,Bool.not_true,Bool.not_false];exact .bool_tuple a ht (by omega)
  |lst ys=>simp only[Rel]at r2;obtain⟨a',ws,rfl,hq,hr⟩:=r2;cases rv;obtain⟨ah,_,ht,_⟩:=I.list hq.sq;simp only[au,Bool.not_true,Bool.not_false];exact .bool_list a ht.isList (by omega)
  |_=>cases f2
 |.int a,d2,A,x,y,u,v,_,f2,r1,r2,ru,rv,hu=>by
  simp only[Rel]at r1;subst r1;obtain⟨t0,rfl⟩:=ru
  cases d2 with
  |ao=>simp only[Rel]at r2;subst r2;cases rv;simp only[au,Bool.not_true,Bool.not_false];exact .int_none a t0
  |bl b=>simp only[Rel]at r2;subst r2;cases rv;simp only[au,Bool.not_true,Bool.not_false];exact .int_bool a t0 b
  |int b=>simp only[Rel]at r2;subst r2;obtain⟨t,rfl⟩:=rv;simp only[au,Bool.not_true,Bool.not_false];exact .int_int a t0 b t
  |str b=>simp only[Rel]at r2;subst r2;obtain⟨t,rfl⟩:=rv;simp only[au,Bool.not_true,Bool.not_false];exact .int_str a t0 b t
  |tup ys=>simp only[Rel]at r2;obtain⟨a',ws,rfl,hq,hr⟩:=r2;cases rv;obtain⟨ah,_,ht,_⟩:=I.tuple hq.sq;simp only[au,Bool.not_true,Bool.not_false];exact .int_tuple a t0 ht (by omega)
  |lst ys=>simp only[Rel]at r2;obtain⟨a',ws,rfl,hq,hr⟩:=r2;cases rv;obtain⟨ah,_,ht,_⟩:=I.list hq.sq;simp only[au,Bool.not_true,Bool.not_false];exact .int_list a t0 ht.isList (by omega)
  |_=>cases f2
 |.str a,d2,A,x,y,u,v,_,f2,r1,r2,ru,rv,hu=>by
  simp only[Rel]at r1;subst r1;obtain⟨t0,rfl⟩:=ru
  cases d2 with
  |ao=>simp only[Rel]at r2;subst r2;cases rv;simp only[au,Bool.not_true,Bool.not_false];exact .str_none a t0
  |bl b=>simp only[Rel]at r2;subst r2;cases rv;simp only[au,Bool.not_true,Bool.not_false];exact .str_bool a t0 b
  |int b=>simp only[Rel]at r2;subst r2;obtain⟨t,rfl⟩:=rv;simp only[au,Bool.not_true,Bool.not_false];exact .str_int a t0 b t
  |str b=>simp only[Rel]at r2;subst r2;obtain⟨t,rfl⟩:=rv;simp only[au,Bool.not_true,Bool.not_false];exact .str_str a t0 b t
  |tup ys=>simp only[Rel]at r2;obtain⟨a',ws,rfl,hq,hr⟩:=r2;cases rv;obtain⟨ah,_,ht,_⟩:=I.tuple hq.sq;simp only[au,Bool.not_true,Bool.not_false];exact .str_tuple a t0 ht (by omega)
  |lst ys=>simp only[Rel]at r2;obtain⟨a',ws,rfl,hq,hr⟩:=r2;cases rv;obtain⟨ah,_,ht,_⟩:=I.list hq.sq;simp only[au,Bool.not_true,Bool.not_false];exact .str_list a t0 ht.isList (by omega)
  |_=>cases f2
 |.tup xs,d2,A,x,y,u,v,f1,f2,r1,r2,ru,rv,hu=>by
  simp only[Rel]at r1;obtain⟨a,vs,rfl,hq,hr⟩:=r1;cases ru
  obtain⟨ah,aN,ht,_⟩:=I.tuple hq.sq
  simp only[dep]at hu
  cases d2 with
  |ao=>simp only[Rel]at r2;subst r2;cases rv;simp only[au,Bool.not_true,Bool.not_false];exact .tuple_none ht (by omega)
  |bl b=>simp only[Rel]at r2;subst r2;cases rv;simp only[au,Bool.not_true,Bool.not_false];exact .tuple_bool b ht (by omega)
  |int b=>simp only[Rel]at r2;subst r2;obtain⟨t,rfl⟩:=rv;simp only[au,Bool.not_true,Bool.not_false];exact .tuple_int b t ht (by omega)
  |str b=>simp only[Rel]at r2;subst r2;obtain⟨t,rfl⟩:=rv;simp only[au,Bool.not_true,Bool.not_false];exact .tuple_str b t ht (by omega)
  |tup ys =>
   simp only[Rel]at r2;obtain⟨a',ws,rfl,bb,cu⟩:=r2;cases rv
   obtain⟨its',cV,eI,_⟩:=I.tuple bb.sq
   simp only[au,gP]
   have l1:xs.length=ah.toArray.size:=by rw[List.size_toArray,<- aN.length];exact hr.length
   have l2:ys.length=its'.toArray.size:=by rw[List.size_toArray,<- cV.length];exact cu.length
   rw[l1,l2]
   refine .tuples ht eI (by omega) λj h1 h2=>?_
   have:=iP I xs ys (A:=A.in1) f1 f2 hr cu aN cV (by rw[in1_units];omega) j (by simpa using h1) (by simpa using h2)
   simpa using this
  |lst ys =>
   simp only[Rel]at r2;obtain⟨a',ws,rfl,bb,cu⟩:=r2;cases rv
   obtain⟨its',cV,eI,_⟩:=I.list bb.sq
   simp only[au,Bool.not_true,Bool.not_false];exact .tuple_list ht eI.isList (by omega)
  |_=>cases f2
 |.lst xs,d2,A,x,y,u,v,f1,f2,r1,r2,ru,rv,hu=>by
  simp only[Rel]at r1;obtain⟨a,vs,rfl,hq,hr⟩:=r1;cases ru
  obtain⟨ah,aN,ht,_⟩:=I.list hq.sq
  simp only[dep]at hu
  cases d2 with
  |ao=>simp only[Rel]at r2;subst r2;cases rv;simp only[au,Bool.not_true,Bool.not_false];exact .list_none ht.isList (by omega)
  |bl b=>simp only[Rel]at r2;subst r2;cases rv;simp only[au,Bool.not_true,Bool.not_false];exact .list_bool b ht.isList (by omega)
  |int b=>simp only[Rel]at r2;subst r2;obtain⟨t,rfl⟩:=rv;simp only[au,Bool.not_true,Bool.not_false];exact .list_int b t ht.isList (by omega)
  |str b=>simp only[Rel]at r2;subst r2;obtain⟨t,rfl⟩:=rv;simp only[au,Bool.not_true,Bool.not_false];exact .list_str b t ht.isList (by omega)
  |lst ys =>
   simp only[Rel]at r2;obtain⟨a',ws,rfl,bb,cu⟩:=r2;cases rv
   obtain⟨its',cV,eI,_⟩:=I.list bb.sq
   simp only[au,gP]
   have l1:xs.length=ah.toArray.size:=by rw[List.size_toArray,<- aN.length];exact hr.length
   have l2:ys.length=its'.toArray.size:=by rw[List.size_toArray,<- cV.length];exact cu.length
   rw[l1,l2]
   by_cases hs:ah.toArray.size=its'.toArray.size
   . have e0:(ah.toArray.size == its'.toArray.size)=true:=by simpa using hs
     rw[e0,Bool.and_true,<- hs,Nat.min_self]
     refine .lists ht.isList eI.isList hs (by omega) λj h1 h2=>?_
     have:=iP I xs ys (A:=A.in1) f1 f2 hr cu aN cV (by rw[in1_units];omega) j (by simpa using h1) (by simpa using h2)
     simpa using this
   . have e0:(ah.toArray.size == its'.toArray.size)=false:=by simpa using hs
     rw[e0,Bool.and_false,Bool.not_false]
     exact .lists_lengths ht.isList eI.isList (by simpa using hs) (by omega)
  |tup ys =>
   simp only[Rel]at r2;obtain⟨a',ws,rfl,bb,cu⟩:=r2;cases rv
   obtain⟨its',cV,eI,_⟩:=I.tuple bb.sq
   simp only[au,Bool.not_true,Bool.not_false];exact .list_tuple ht.isList eI (by omega)
  |_=>cases f2
 |.bF,d2,A,x,y,u,v,f1,_,_,_,_,_,_=>by cases f1
 |.ref _,d2,A,x,y,u,v,f1,_,_,_,_,_,_=>by cases f1
 |.aI _,d2,A,x,y,u,v,f1,_,_,_,_,_,_=>by cases f1
 |.fn _,d2,A,x,y,u,v,f1,_,_,_,_,_,_=>by cases f1
end
noncomputable def iA (d1 d2:D)(g:G):Option (D×G):=if(flat d1&&flat d2&&decide (dep d1<=60))=true then some (.bl (!au d1 d2),g)else none
theorem Iq (hu:X.A.units+64<cLine):aX X (compareOp .NotEq) (ck X.kw iA):=by
 intro pins s σ H x y v u Q I rx ry q
 obtain⟨ι,g,d1,d2,d,g',G0,r1,r2,q,p⟩:=q
 unfold iA at q
 split at q
 . rename_i z
   simp only[Bool.and_eq_true,decide_eq_true_eq]at z
   cases q
   exact yN I d1 d2 z.1.1 z.1.2 r1 r2 rx ry (by omega) _ _ _ _ ⟨.bl _,H,I,rfl,p H ι _ Ext.refl G0 (by simp[Rel])⟩
 . cases q
end
@[simp] theorem PZ {d1 d2:D}{g:G}:iA d1 d2 g=if(flat d1&&flat d2&&decide (dep d1<=60))=true then some (.bl (!au d1 d2),g)else none:=rfl
mutual
noncomputable def toPy:D->PyData
 |.ao=>.none
 |.bl b=>.bool b
 |.int i=>.int i
 |.str x=>.str x
 |.tup xs=>.tuple (b3 xs)
 |.lst xs=>.list (b3 xs)
 |.bF=>.none
 |.ref _=>.none
 |.aI _=>.none
 |.fn _=>.none
noncomputable def b3:List D->List PyData
 | []=>[]
 |d::ds=>toPy d::b3 ds
end
mutual
theorem iB:∀d:D,(toPy d).hasDict=false
 |.ao=>by simp[toPy,PyData.hasDict]
 |.bl _=>by simp[toPy,PyData.hasDict]
 |.int _=>by simp[toPy,PyData.hasDict]
 |.str _=>by simp[toPy,PyData.hasDict]
 |.tup xs=>by simp[toPy,PyData.hasDict,gR xs]
 |.lst xs=>by simp[toPy,PyData.hasDict,gR xs]
 |.bF=>by simp[toPy,PyData.hasDict]
 |.ref _=>by simp[toPy,PyData.hasDict]
 |.aI _=>by simp[toPy,PyData.hasDict]
 |.fn _=>by simp[toPy,PyData.hasDict]
theorem gR:∀ds:List D,PyData.hasDictAll (b3 ds)=false
 | []=>by simp[b3,PyData.hasDictAll]
 |d::ds=>by simp[b3,PyData.hasDictAll,iB d,gR ds]
end
section
variable {X:Cx}
section
variable {pins:List (Addr×Obj)}{σ:L2.St}{H:Hp}{s:Shared}{ι:Ix}
mutual
theorem vb (I:Inv X pins σ H s):∀(d:D) {x:V} {u:Value},flat d=true->Rel X.kw H ι d x->RelV x u->∃as,Reads s.heap u (toPy d) as
 |.ao,x,u,_,r,ru=>by simp only[Rel]at r;subst r;cases ru;simp only[toPy];exact⟨_,.none⟩
 |.bl b,x,u,_,r,ru=>by simp only[Rel]at r;subst r;cases ru;simp only[toPy];exact⟨_,.bool _⟩
 |.int i,x,u,_,r,ru=>by simp only[Rel]at r;subst r;obtain⟨t,rfl⟩:=ru;simp only[toPy];exact⟨_,.int _ _⟩
 |.str i,x,u,_,r,ru=>by simp only[Rel]at r;subst r;obtain⟨t,rfl⟩:=ru;simp only[toPy];exact⟨_,.str _ _⟩
 |.tup xs,x,u,f,r,ru=>by
  simp only[Rel]at r;obtain⟨a,vs,rfl,hq,hr⟩:=r;cases ru
  obtain⟨ah,aN,ht,_⟩:=I.tuple hq.sq
  obtain⟨o,ho,hc,n,hd⟩:=ht
  obtain⟨as,hA⟩:=jv I xs f hr aN
  simp only[toPy]
  exact⟨_,.tuple ho hc hd (by simpa using hA)⟩
 |.lst xs,x,u,f,r,ru=>by
  simp only[Rel]at r;obtain⟨a,vs,rfl,hq,hr⟩:=r;cases ru
  obtain⟨ah,aN,ht,_⟩:=I.list hq.sq
  obtain⟨o,ho,hc,n,hd⟩:=ht.isList
  obtain⟨as,hA⟩:=jv I xs f hr aN
  simp only[toPy]
  exact⟨_,.list ho hc hd (by simpa using hA)⟩
 |.bF,x,u,f,_,_=>by cases f
 |.ref _,x,u,f,_,_=>by cases f
theorem jv (I:Inv X pins σ H s):∀(ds:List D) {vs:List V} {us:List Value},az ds=true->ae X.kw H ι ds vs->Vals vs us->∃as,ReadsAll s.heap us (b3 ds) as
 | [],vs,us,_,r,ru=>by simp only[ae]at r;subst r;cases ru;simp only[b3];exact⟨_,.nil⟩
 |d::ds,vs,us,f,r,ru=>by
  simp only[ae]at r
  obtain⟨v,vr,rfl,hv,hr⟩:=r
  simp only[az,Bool.and_eq_true]at f
  cases ru with
  |cons r0 rr =>
   obtain⟨as,h1⟩:=vb I d f.1 hv r0
   obtain⟨bs,h2⟩:=jv I ds f.2 hr rr
   simp only[b3]
   exact⟨_,.cons h1 h2⟩
end
end
noncomputable def l_ (d:D):Bool:=flat d&&(toPy d).showable&&decide ((toPy d).depth<=60)&&aC (toPy d).shown.length
noncomputable def ie (ds:List D)(g:G):Option (D×G):=match ds with| [d]=>if l_ d=true then some (.str (toPy d).shown,g)else none|_=>none
theorem EN (hg:X.A.guards=some [])(hu:X.A.units+64<cLine):bS X (.builtin "repr") (h_ X.kw ie):=by
 intro pins s σ H xs us Q I r q
 obtain⟨ι,g,ds,d,g',G0,r1,q,p⟩:=q
 unfold ie at q
 split at q
 . rename_i d0
   split at q
   . rename_i z
     cases q
     simp only[l_,Bool.and_eq_true,decide_eq_true_eq]at z
     obtain⟨⟨⟨z1,z2⟩,z3⟩,z4⟩:=z
     simp only[ae]at r1
     obtain⟨x,vr,rfl,hv,rfl⟩:=r1
     cases r with
     |cons ru rr =>
      cases rr
      have z5:=aC.le z4
      have fin:∀h' u tk,(∀b o,s.heap.get? b=some o->h'.get? b=some o)->∃v H',Inv X pins σ H' { s with heap:=h',toks:=tk }/\RelV v (Value.str (toPy d0).shown u)/\Q v H':=λh' u tk hk =>
       ⟨.str _,H,I.kept hk,⟨_,rfl⟩,p H ι _ Ext.refl G0 (by simp[Rel])⟩
      obtain⟨as,R⟩:=vb I d0 z1 hv ru
      cases d0 with
      |ao =>
       simp only[Rel]at hv;subst hv;cases ru
       simp only[toPy,PyData.shown]at fin
       exact PySem.P.repr_of_none (fin s.heap _ _ λ_ _ e=>e)
      |bl b =>
       simp only[Rel]at hv;subst hv;cases ru
       simp only[toPy,PyData.shown]at fin
       exact PySem.P.repr_of_bool (fin s.heap _ _ λ_ _ e=>e)
      |int i =>
       simp only[Rel]at hv;subst hv;obtain⟨t,rfl⟩:=ru
       simp only[toPy,PyData.shown]at fin
       simp only[toPy,PyData.showable,decide_eq_true_eq]at z2
       exact PySem.P.repr_of_int z2 (fin s.heap _ _ λ_ _ e=>e)
      |str i =>
       simp only[Rel]at hv;subst hv;obtain⟨t,rfl⟩:=ru
       simp only[toPy,PyData.shown]at fin z5
       exact PySem.P.repr_of_str (fin s.heap _ _ λ_ _ e=>e) z5
      |tup xs =>
       simp only[Rel]at hv;obtain⟨a,vs,rfl,hq,hr⟩:=hv;cases ru
       exact repr_of_reads' R z2 (PyData.noDict_hsm (iB _)) hg (by omega) (λ_ _ e=>e) (λh' u tk hk=>fin h' u tk hk) z5
      |lst xs =>
       simp only[Rel]at hv;obtain⟨a,vs,rfl,hq,hr⟩:=hv;cases ru
       exact repr_of_reads' R z2 (PyData.noDict_hsm (iB _)) hg (by omega) (λ_ _ e=>e) (λh' u tk hk=>fin h' u tk hk) z5
      |bF=>cases z1
      |ref _=>cases z1
      |aI _=>cases z1
      |fn _=>cases z1
   . cases q
 . cases q
end
noncomputable def fI:List D->Option (List Int)
 | []=>some []
 |.int i::ds=>(fI ds).map (i :: ·)
 |_=>none
theorem wL {d:D}{ds:List D}{ns:List Int}(h:fI (d::ds)=some ns):∃i ms,d = .int i/\ns=i::ms/\fI ds=some ms:=by
 cases d with
 |int i =>
  simp only[fI,Option.map_eq_some_iff]at h
  obtain⟨ms,h1,rfl⟩:=h
  exact⟨i,ms,rfl,rfl,h1⟩
 |_=>simp[fI]at h
theorem oZ {K H ι}:∀{xs:List D} {vs:List V} {us:List Value} {ns:List Int},fI xs=some ns->ae K H ι xs vs->Vals vs us->IntsAre us ns
 | [],vs,us,ns,h,r,rv=>by simp only[ae]at r;subst r;cases rv;cases h;exact .nil
 |d::ds,vs,us,ns,h,r,rv=>by
  obtain⟨i,ms,rfl,rfl,h1⟩:=wL h
  simp only[ae,Rel]at r
  obtain⟨v,vr,rfl,rfl,hr⟩:=r
  cases rv with
  |cons r0 rr =>
   obtain⟨t,rfl⟩:=r0
   exact .cons i t (oZ h1 hr rr)
theorem mR:∀{us:List Value} {ns:List Int},IntsAre us ns->∃xs:List (Int×Tok),us=xs.map (λp=>Value.int p.1 p.2)/\ns=xs.map (·.1)
 |_,_,.nil=>⟨[],rfl,rfl⟩
 |_,_,.cons n t h=>by
  obtain⟨xs,rfl,rfl⟩:=mR h
  exact⟨(n,t)::xs,rfl,rfl⟩
section
variable {X:Cx}
theorem fO:∀{us:List Value} {ns:List Int},IntsAre us ns->Vals (ns.map V.int) us
 |_,_,.nil=>.nil
 |_,_,.cons n t h=>.cons ⟨t,rfl⟩ (fO h)
theorem mS {K:KW}{H:Hp}{ι:Ix}:∀ns:List Int,ae K H ι (ns.map D.int) (ns.map V.int)
 | []=>by simp[ae]
 |n::ns=>by
  simp only[List.map_cons,ae]
  exact⟨_,_,rfl,by simp[Rel],mS ns⟩
end
section
variable {σ:Sg}{g:G}{fr:FA}
@[simp] theorem Bg {d:D}:ie [d] g=if l_ d=true then some (.str (toPy d).shown,g)else none:=rfl
end
end L3
namespace L3
open PySem PySem.Spec PyProof.Rows L2 HT
section
variable {prog:Program}{w:World}{A:Around}{E:Value->Shared->Prop}{s:Shared}
theorem jR {t sl:Addr}{items:Array Value}{vl vu:Value}{lo hi:Option Int}{Q:Value->Shared->Prop}(ht:IsTup s.heap t items)(hs:s.heap.IsSliceOf sl vl vu .none)(pl:IsPart vl lo)(pu:IsPart vu hi)
  (hw:aQ items.size 0 lo=0/\aQ items.size items.size hi=items.size)
  (h:Q (.ref t) s):wpAny (model prog w) A (getItem (.ref t) (.ref sl)) Q E s:=by
 obtain⟨os,qE,B7,mD⟩:=id hs
 have Gz:s.TypeIs (.ref sl) "slice":=⟨os,qE,B7⟩
 unfold getItem
 try with_reducible refine wpAny_holding ?_
 first|refine wpAny_bind (wpAny_pure ?_)|skip
 refine wpAny_bind (wpAny_sequenceKey ht.typeIs (by decide) ?_)
 refine wpAny_bind (wpAny_callSpecial?_slot (name:=Str.ofString "__getitem__") ht.typeIs PyProof.Rows.slot_tuple_getitem
  (wpAny_call_entry PyProof.Rows.slot_tuple_getitem ht.typeIs entry_tuple_getitem ?_ (args_tuple_getitem _ _)))
 show wpAny _ _ (Builtin.Tuple.tupleItemsOf (.ref t) >>= _) _ _ s
 refine wpAny_bind (tupleItemsOf_ ht ?_)
 refine wpAny_bind (wpAny_typeOf Gz ?_)
 rw[if_pos (by decide)]
 refine wpAny_bind (gH hs pl pu ?_)
 have N6:((((aQ items.size 0 lo:Nat):Int)== 0&&(1:Int)== 1&&(aQ items.size items.size hi-aQ items.size 0 lo)== items.size)=true):=by
  rw[hw.1,hw.2];simp
 show wpAny _ _ (if(((aQ items.size 0 lo:Nat):Int)== 0&&(1:Int)== 1&&(aQ items.size items.size hi-aQ items.size 0 lo)== items.size)=true then _ else _) _ _ s
 rw[if_pos N6]
 unfold Builtin.Tuple.tupleIsExact
 refine wpAny_bind (wpAny_bind (wpAny_typeOf ht.typeIs (wpAny_pure ?_)))
 rw[if_pos (by decide)]
 refine wpAny_bind (wpAny_rule (wpAny_pure ⟨_,rfl,wpAny_pure h⟩))
end
section
variable {X:Cx}
noncomputable def N7 (K:KW):V->Option Int->Option Int->Hp->VK->Prop:=λx lo hi H Q=>∃a xs,x = .ref a/\da K H a xs/\(HT.aQ xs.length 0 lo=0/\HT.aQ xs.length xs.length hi=xs.length)/\Q (.ref a) H
theorem Bh:lA X (N7 X.kw):=by
 intro pins s σ H x v vl vu lo hi sl Q I rx hs pl pu h
 obtain⟨a,xs,rfl,hx,hw,q⟩:=h
 cases rx
 obtain⟨ah,r,ht,hz⟩:=I.tuple hx
 have hlen:ah.toArray.size=xs.length:=by rw[List.size_toArray];exact r.length.symm
 refine⟨"tuple",_,PyProof.Rows.slot_tuple_getitem.lookup,ht.typeIs,?_⟩
 exact jR ht hs pl pu (by rw[hlen];exact hw) ⟨.ref a,H,I,rfl,q⟩
noncomputable def rZ (d:D)(lo hi:Option Int)(g:G):Option (D×G):=match d with
 |.tup xs=>some (.tup (cutD xs lo hi),g)
 |d=>Ie d lo hi g
theorem yO {xs:List D}{lo hi:Option Int}(h:iQ xs.length lo hi=true):cutD xs lo hi=xs:=by
 unfold iQ at h
 rw[Bool.and_eq_true,decide_eq_true_eq,decide_eq_true_eq]at h
 unfold cutD
 rw[h.1,h.2]
 simp
noncomputable def Bi (fa:FE)(fl fh:FO):FE:=λσ g=>(fa σ g).bind λr=>(fl σ r.2).bind λl=>(fh σ l.2).bind λh=>rZ r.1 l.1 h.1 h.2
theorem yP {a:Expr}{lo hi:Option Expr}{fa:FE}{fl fh:FO}{p2 pos:Pos}(ha:DE X a fa)(hl:DO X lo fl)(hh:DO X hi fh):DE X (.Subscript a (.Slice lo hi none p2) pos) (Bi fa fl fh):=.of (
 PE.imp (AH (lA.or EA Bh) ha.un hl.un hh.un) λσ H Q h=>by
  obtain⟨ι,σd,g,d,g',G0,S0,h,p⟩:=h
  obtain⟨⟨d1,g1⟩,h1,h⟩:=bind_some h
  obtain⟨⟨l,g2⟩,h2,h⟩:=bind_some h
  obtain⟨⟨u,g3⟩,h3,h⟩:=bind_some h
  refine tD.bind G0 S0 h1 λH1 ι1 v e1 G1 S1 r1=>?_
  refine⟨ι1,σd,g1,l,g2,G1,S1,h2,λH2 ι2 e2 G2=>?_⟩
  refine⟨ι2,σd,g2,u,g3,G2,S1.ext e2,h3,λH3 ι3 e3 G3=>?_⟩
  have r3:=Rel.ext (e2.trans e3) _ r1
  have p3:=p.mono (e1.trans (e2.trans e3))
  have lst:∀{xs:List D} {a:Addr} {vs:List V},v = .ref a->b7 X.kw H3 a vs->ae X.kw H3 ι3 xs vs->some (D.lst (cutD xs l u),g3)=some (d,g')->Ih X.kw v l u H3 Q:=fun {xs a vs} ev hq hr hh=>by
   cases hh
   refine .inr ⟨a,vs,ev,hq,λq bb=>p3 _ _ _ (Ext.lay bb) (G3.lay bb) ?_⟩
   simp only[Rel]
   exact⟨q,_,rfl,.inl ⟨.inl aR,G3.fresh bb,G3.gK bb⟩,ae.ext (Ext.lay bb) _ (hr.Ig l u)⟩
  dsimp only at h
  cases d1 with
  |tup xs =>
   simp only[rZ]at h
   cases h
   have r4:=r3
   simp only[Rel]at r3
   obtain⟨a,vs,rfl,hq,hr⟩:=r3
   by_cases z:iQ xs.length l u=true
   . refine .inr ⟨a,vs,rfl,hq.sq,?_,p3 _ _ _ Ext.refl G3 ?_⟩
     . unfold iQ at z
       rw[hr.length,Bool.and_eq_true,decide_eq_true_eq,decide_eq_true_eq]at z;exact z
     . rw[yO z];exact r4
   . refine .inl (.inl ⟨a,vs,rfl,hq.sq,λc=>z ?_,λq bb=>p3 _ _ _ (Ext.lay bb) (G3.lay bb) ?_⟩)
     . unfold iQ
       rw[hr.length,Bool.and_eq_true,decide_eq_true_eq,decide_eq_true_eq];exact c
     . simp only[Rel]
       exact⟨q,_,rfl,.inl ⟨.inl aR,G3.fresh bb⟩,ae.ext (Ext.lay bb) _ (hr.Ig l u)⟩
  |lst xs =>
   simp only[rZ,Ie]at h
   simp only[Rel]at r3
   obtain⟨a,vs,e0,hq,hr⟩:=r3
   exact .inl (lst e0 hq.sq hr h)
  |ref n =>
   simp only[rZ,Ie]at h
   split at h
   . rename_i xs hx
     simp only[Rel]at r3
     obtain⟨a,e0,ha⟩:=r3
     obtain⟨vs,hv,hr⟩:=G3.at hx ha
     exact .inl (lst e0 (.of hv) hr h)
   . cases h
  |_=>cases h)
end
@[simp] theorem P0 {fa:FE}{fl fh:FO}{σ:Sg}{g:G}:Bi fa fl fh σ g=(fa σ g).bind λr=>(fl σ r.2).bind λl=>(fh σ l.2).bind λh=>rZ r.1 l.1 h.1 h.2:=rfl
end L3
namespace L3
open PySem PySem.Spec PyProof.Rows L2
mutual
noncomputable def sm:D->Bool
 |.ao=>true
 |.bl _=>true
 |.int i=>decide (i.natAbs<10 ^ 19)
 |.str x=>decide ((reprText x).length<=20)
 |.tup xs=>iS xs
 |.lst _=>false
 |.bF=>false
 |.ref _=>false
 |.aI _=>false
 |.fn _=>false
noncomputable def iS:List D->Bool
 | []=>true
 |d::ds=>sm d&&iS ds
end
mutual
noncomputable def nd:D->Nat
 |.tup xs=>ig xs+1
 |_=>1
noncomputable def ig:List D->Nat
 | []=>0
 |d::ds=>nd d+ig ds
end
theorem join_le:∀ts:List Str,(Str.join ", " ts).length<=piled ts
 | []=>Nat.zero_le _
 |t::ts=>by have:=join_length_add (t::ts) (by simp);omega
theorem wM (ts:List Str):(tupleText ts).length<=piled ts+4:=by
 have:=join_le ts
 have z1:(Str.ofString "(").length=1:=rfl
 have z2:(Str.ofString ",)").length=2:=rfl
 have z3:(Str.ofString ")").length=1:=rfl
 unfold tupleText
 rw[strLen_append,strLen_append]
 split<;>simp only[z1,z2,z3]<;>omega
mutual
theorem shown_le:∀d:D,sm d=true->(toPy d).shown.length+2<=30*nd d
 |.ao,_=>by simp only[toPy,PyData.shown,nd];decide
 |.bl b,_=>by cases b<;>(simp only[toPy,PyData.shown,nd];decide)
 |.int i,h=>by
  simp only[sm,decide_eq_true_eq]at h
  have:=int_text_length_le10 (k:=19) (by decide) h
  simp only[toPy,PyData.shown,nd]
  rw[PySem.ofString_length];omega
 |.str x,h=>by
  simp only[sm,decide_eq_true_eq]at h
  simp only[toPy,PyData.shown,nd];omega
 |.tup xs,h=>by
  simp only[sm]at h
  have:=shownAll_le xs h
  have h2:=wM (PyData.shownAll (b3 xs))
  simp only[toPy,PyData.shown,nd];omega
 |.lst _,h=>by cases h
 |.bF,h=>by cases h
 |.ref _,h=>by cases h
 |.aI _,h=>by cases h
 |.fn _,h=>by cases h
theorem shownAll_le:∀ds:List D,iS ds=true->piled (PyData.shownAll (b3 ds))<=30*ig ds
 | [],_=>by simp[b3,PyData.shownAll,piled]
 |d::ds,h=>by
  simp only[iS,Bool.and_eq_true]at h
  have h1:=shown_le d h.1
  have h2:=shownAll_le ds h.2
  have h3:1<=nd d:=by cases d<;>simp[nd]
  simp only[b3,PyData.shownAll,ig,piled,List.map_cons,List.sum_cons]at h2 ⊢
  omega
end
mutual
theorem n5:∀d:D,sm d=true->(toPy d).showable=true/\flat d=true/\(toPy d).depth<=nd d
 |.ao,_=>by simp[toPy,PyData.showable,PyData.depth,flat]
 |.bl b,_=>by simp[toPy,PyData.showable,PyData.depth,flat]
 |.int i,h=>by
  simp only[sm,decide_eq_true_eq]at h
  have:i.natAbs.log2<1920:=by
   by_cases z:i.natAbs=0
   . rw[z];decide
   . exact Nat.lt_of_lt_of_le ((Nat.log2_lt z).mpr (Nat.lt_of_lt_of_le h (by decide:10 ^ 19<=2 ^ 64))) (by decide)
  simp[toPy,PyData.showable,PyData.depth,flat,this]
 |.str x,_=>by simp[toPy,PyData.showable,PyData.depth,flat]
 |.tup xs,h=>by
  simp only[sm]at h
  obtain⟨h1,h2,h3⟩:=r6 xs h
  simp only[toPy,PyData.showable,PyData.depth,flat,nd]
  exact⟨h1,h2,by omega⟩
 |.lst _,h=>by cases h
 |.bF,h=>by cases h
 |.ref _,h=>by cases h
 |.aI _,h=>by cases h
 |.fn _,h=>by cases h
theorem r6:∀ds:List D,iS ds=true->PyData.showableAll (b3 ds)=true/\az ds=true/\PyData.depthAll (b3 ds)<=ig ds
 | [],_=>by simp[b3,PyData.showableAll,PyData.depthAll,az]
 |d::ds,h=>by
  simp only[iS,Bool.and_eq_true]at h
  obtain⟨h1,h2,h3⟩:=n5 d h.1
  obtain⟨h4,h5,h6⟩:=r6 ds h.2
  simp only[b3,PyData.showableAll,PyData.depthAll,az,Bool.and_eq_true,ig]
  exact⟨⟨h1,h4⟩,⟨h2,h5⟩,by omega⟩
end
section
variable {X:Cx}
noncomputable def Lh (K:KW):V->List V->Hp->VK->Prop:=λx vs H Q=>∃a xs y j,x = .ref a/\b7 K H a (xs.map toV)/\vs = [toV y]/\c_ y=true/\xs.all c_=true/\lZ xs y=some j/\Q (.int j) H
theorem yQ:B8 X "list.index" (Lh X.kw):=by
 intro pins s σ H x vs v us Q I rx rv h
 obtain⟨a,xs,y,j,rfl,hq,rfl,hy,hx,hj,q⟩:=h
 cases rx
 obtain⟨u,rfl,ru⟩:=rv.one
 obtain⟨ah,aN,pl,hz⟩:=I.list hq
 obtain⟨⟨cls,dd,data,sl⟩,n,hg,h2,h3,h4⟩:=id pl
 simp only at h2 h3 h4
 subst h2 h3 h4
 have fy:eC (toV y)=true:=(e_ hy (gy (K:=X.kw) (H:=H) (ι:=⟨[],[],λ_=>0⟩) hy)).2
 have fx:(xs.map toV).all eC=true:=(jr hx (jt (K:=X.kw) (H:=H) (ι:=⟨[],[],λ_=>0⟩) hx)).2
 unfold lZ at hj
 rw[List.findIdx?_eq_some_iff_getElem]at hj
 obtain⟨aU,hit,qF⟩:=hj
 have hlen:(xs.map toV).length=ah.length:=aN.length
 rw[List.length_map]at hlen
 have cX:j<ah.toArray.size:=by rw[List.size_toArray];omega
 have item:∀m (hm:m<xs.length) (hW:m<ah.toArray.size),uB (toV y) ah.toArray[m]=au xs[m] y:=λm hm hW=>by
  obtain⟨u',e',r'⟩:=aN.get (i:=m) (x:=toV xs[m]) (by rw[List.getElem?_map,List.getElem?_eq_getElem hm];rfl)
  have j3:m<ah.length:=by simpa using hW
  rw[List.getElem?_eq_getElem j3]at e'
  cases e'
  have fm:c_ xs[m]=true:=List.all_eq_true.mp hx _ (List.getElem_mem hm)
  rw[List.getElem_toArray,qH r' (e_ fm (gy (K:=X.kw) (H:=H) (ι:=⟨[],[],λ_=>0⟩) fm)).2,CB fm hy]
 have Ia:ah.length<=sizeLine:=by
  have:=aN.length
  first|omega| (simp only[List.length_map]at *;omega)
 have Th:sizeLine<2 ^ 62:=by decide
 refine call_meets F.slot_list_index ⟨_,hg,rfl⟩ F.entry_list_index (F.args_list_index_2 _ _) (SeqAt.list_indexAt a ah.toArray n none sl u (uB (toV y)) j cX (by rw[List.size_toArray]at cX;omega) (by rw[item j aU cX];exact hit) (λm hm Im=>by
  have j3:m<xs.length:=by omega
  rw[item m j3 hm]
  simpa using qF m Im)) ⟨hg,λz hz=>lQ ru fy aN fx z (by simpa using hz),?_⟩
 exact⟨.int j,H,I.tok _,⟨_,rfl⟩,q⟩
end
end L3
namespace TL
open PySem PySem.Spec PySem.SeqAt PyProof.Rows
open AutoSeq1 (wpAny_loadPart')
open MeetsSeq MeetsSeq2 MeetsSeq3 SeqRoads2
noncomputable def jw (A:Around)(s:Shared)(y x:Value)(b:Bool):Prop :=
 ∀(prog:Program) (w:World) (E:Value->Shared->Prop) (Q:Value->Shared->Prop),Q (.bool b) s->wpAny (model prog w) A (richCompare .Lt y x) Q E s
inductive Lex (A:Around)(s:Shared)(fin:Bool):List (Value×Value)->Bool->Prop
 |nil:Lex A s fin [] fin
 |eq {p q r k}:EqAt A s p q true->Lex A s fin r k->Lex A s fin ((p,q)::r) k
 |ne {p q r k}:EqAt A s p q false->jw A s p q k->Lex A s fin ((p,q)::r) k
theorem wN (l b:Addr)(items bY:Array Value)(n n2:Nat)(dd jG:Option Addr)(sl hU:Array (Option Value))(k:Bool):
  Meets (Builtin.«tuple.__lt__» ⟨[.ref l,.ref b],[]⟩)
   (λA R s=>s.heap.get? l=some { cls:=.type "tuple",dict:=dd,data:=.seq items n,slots:=sl }/\s.heap.get? b=some { cls:=.type "tuple",dict:=jG,data:=.seq bY n2,slots:=hU } /\
    Lex A.in1 s (decide (items.size<bY.size)) (items.toList.zip bY.toList) k/\R (.ok (.ret (.bool k))) s):=
 .of_wp λprog w A R s h=>by
  obtain⟨hp,g,d,tk,os⟩:=s;obtain⟨hl,hb,he,h⟩:=h
  have f2:=AutoSeq1.sub_tuple_tuple
  wp_walk using wpAny_loadPart' hl,wpAny_loadPart' hb,wpAny_forIn_list _ (λrest b s'=>b.1=none/\s'=⟨hp,g,d,tk,os⟩/\Lex A.in1 ⟨hp,g,d,tk,os⟩ (decide (items.size<bY.size)) rest k) _
  case turn =>
   rintro⟨y,x⟩ rest b s' ⟨eD,rfl,hz⟩
   cases hz with
   |eq e1 e2 =>
    refine wpAny_bind (e1 prog w _ _ ?_)
    wp_walk
    exact⟨rfl,rfl,e2⟩
   |ne e1 e2 =>
    refine wpAny_bind (e1 prog w _ _ ?_)
    simp only[Bool.not_false,if_true]
    refine wpAny_bind (wpAny_rule ?_)
    refine wpAny_bind (e2 prog w _ _ ?_)
    wp_walk
    exact⟨_,rfl,h⟩
  case fin =>
   rintro⟨b1,b2⟩ s' ⟨eD,rfl,hz⟩
   simp only at eD
   subst eD
   cases hz
   wp_walk
   exact⟨_,rfl,by simpa[Builtin.Tuple.tupleCompareSizes]using h⟩
  case h =>
   exact⟨rfl,rfl,he⟩
section
variable {A:Around}{s:Shared}
theorem jw.tuples {l b:Addr}{items bY:Array Value}{k:Bool}(hl:s.heap.IsTuple l items)(hb:s.heap.IsTuple b bY)(hu:A.units<cLine)
  (he:Lex A.in1 s (decide (items.size<bY.size)) (items.toList.zip bY.toList) k):jw A s (.ref l) (.ref b) k:=λprog w E Q h=>by
 obtain⟨⟨cls,dd,data,sl⟩,ho,hc,n,hd⟩:=id hl
 obtain⟨⟨vX,jG,data2,hU⟩,dJ,f_,n2,hd2⟩:=id hb
 simp only at hc hd f_ hd2
 subst hc hd f_ hd2
 exact richCompare_meets_room (op:=.Lt) ⟨_,ho,rfl⟩ ⟨_,dJ,rfl⟩ F.slot_tuple_lt F.entry_tuple_lt (F.args_tuple_lt_2 _ _) (wN l b items bY n n2 dd jG sl hU k)
  ⟨ho,dJ,he,show Value.bool k≠Value.notImplemented/\Q (.bool k) s from⟨(λx=>nomatch x),h⟩⟩ hu
theorem jw.ints (a b:Int)(t u:Tok):jw A s (.int a t) (.int b u) (decide (a<b)):=λprog w E Q h =>
 wpAny_richCompare_same (op:=.Lt) (typeIs_int s a t) (typeIs_int s b u) slot_int_lt (call_int_lt ⟨(λx=>nomatch x),h⟩)
theorem jw.strs (a b:Str)(t u:Tok):jw A s (.str a t) (.str b u) (decide (a.cps.toList<b.cps.toList)):=λprog w E Q h =>
 wpAny_richCompare_same (op:=.Lt) (typeIs_str s a t) (typeIs_str s b u) slot_str_lt (call_str_lt ⟨(λx=>nomatch x),h⟩)
end
open PySem.W
section
variable {prog:Program}{w:World}{A:Around}{E:Value->Shared->Prop}{s:Shared}
noncomputable def b4 (h:Heap)(a:Addr)(vs:List Value):Heap:=((h.update a (Obj.mapSeq λ_=>#[])).push (seqObj "tuple" vs.toArray 0)).push (seqObj "list" #[] 0)
theorem lI {h:Heap}{a b:Addr}{vs:List Value}{o:Obj}(hb:b≠a)(ho:h.get? b=some o):(b4 h a vs).get? b=some o:=by
 unfold b4
 have aU:=Heap.lt_size ho
 rw[Heap.get?_push_ne _ _ _ (by rw[size_push',Heap.size_update];exact Nat.ne_of_lt (Nat.lt_succ_of_lt aU)),Heap.get?_push_ne _ _ _ (by rw[Heap.size_update];exact Nat.ne_of_lt aU),Heap.get?_update_ne _ _ _ _ hb]
 exact ho
end
end TL
namespace L3
open PySem PySem.Spec PyProof.Rows L2
noncomputable def Ir:D->D->Option Bool
 |.int a,.int b=>some (decide (a<b))
 |.str a,.str b=>some (decide (a.cps.toList<b.cps.toList))
 |_,_=>none
noncomputable def gS (nn L:Nat)(t:FG)(c:FT)(e:FE):Nat->Sg->G->Option (List D×G)
 | 0,_,g=>(g[nn]?).bind λxs=>if xs.length=L then some ([],g)else none
 |r+1,σ,g=>(g[nn]?).bind λxs=>if xs.length=L then(xs[L-(r+1)]?).bind λd=>(t d σ g).bind λq=>(c q.1 q.2).bind λk=>if k.1=true then(e q.1 k.2).bind λr'=>(gS nn L t c e r q.1 r'.2).bind λz=>some (r'.1::z.1,z.2)else gS nn L t c e r q.1 k.2 else none
abbrev mT:=Sg->G->Option (Nat×Nat×G)
noncomputable def wO (K:KW)(J:It)(H:Hp)(ι:Ix)(nn L:Nat):Prop :=
 ∀(i:Nat) H1 ι1 g1,gL H ι H1 ι1->ak K H1 ι1 g1->∀xs,g1[nn]? = some xs->xs.length=L->(L<=i->J.stop i H1) /\ ∀d,xs[i]? = some d->J.go i H1 /\ ∀x H2,J.xI i H1 x H2->Ext H1 ι1 H2 ι1/\ak K H2 ι1 g1/\Rel K H2 ι1 d x
inductive Iu (K:KW)(f:mT)(σ:L2.St)(H:Hp)(R:(It->Hp->Prop)):Prop
 |mk (ι:Ix) (σd:Sg) (g:G) (nn:Nat) (L:Nat) (g':G) (h0:ak K H ι g) (h1:bf K H ι σd σ) (h2:f σd g=some (nn,L,g')) (h3:∀H' ι' J,Ext H ι H' ι'->ak K H' ι' g'->wO K J H' ι' nn L->R J H'):Iu K f σ H R
structure Iv (X:Cx)(tg iter:Expr)(f:mT):Prop where of ::
 un:PI X tg iter (Iu X.kw f)
noncomputable def Bj (f:FE):mT:=λσ g=>(f σ g).bind λr=>match r.1 with|.ref n=>(r.2[n]?).bind λxs=>some (n,xs.length,r.2)|_=>none
theorem wO.ref {K H ι a n L}(h:cj ι n a false):wO K (B4 K a) H ι n L:=λi H1 ι1 g1 e1 G1 xs hx hl=>by
 obtain⟨vs,hv,hr⟩:=G1.at hx (e1.at h)
 have hq:b7 K H1 a vs:=.inl (.inl hv)
 refine⟨λh=>⟨vs,hq,by rw[<- hr.length];omega⟩,λd hd=>?_⟩
 obtain⟨v,Cw,rv⟩:=hr.get hd
 refine⟨⟨vs,v,hq,Cw⟩,λx H2 y=>?_⟩
 obtain⟨rfl,y⟩:=y
 have:=y vs hq
 rw[Cw]at this;cases this
 exact⟨Ext.refl,G1,rv⟩
theorem EO {X:Cx}{tg l:Expr}{fe:FE}(hl:DE X l fe):Iv X tg l (Bj fe):=.of (PI.imp (uw hl.un) λσ H Q h=>by
 obtain⟨ι,σd,g,nn,L,g',G0,S0,h,p⟩:=h
 obtain⟨⟨d1,g1⟩,h1,h⟩:=bind_some h
 cases d1 with
 |ref n =>
  obtain⟨xs,hx,h⟩:=bind_some h
  cases h
  refine tD.bind G0 S0 h1 λH1 ι1 v e1 G1 S1 r1=>?_
  simp only[Rel]at r1
  obtain⟨a,rfl,ha⟩:=r1
  obtain⟨vs,hv,hr⟩:=G1.at hx ha
  exact⟨a,rfl,⟨vs,.inl (.inl hv)⟩,p H1 ι1 _ e1 G1 (.ref ha)⟩
 |_=>cases h)
noncomputable def ke (mk:List D->G->Option (D×G))(fi:mT)(fr:List (Option Nat))(t:FG)(c:FT)(e:FE):FE:=λσ g=>(fi σ g).bind λr=>if aC r.2.1=true then(gS r.1 r.2.1 t c e r.2.1 (bM fr σ) r.2.2).bind λq=>mk q.1 q.2 else none
noncomputable def Iw (fi:mT):mN:=λσ g=>(fi σ g).map λr=>(λg=>g[r.1]?,r.2.1,r.2.2)
theorem ER {X:Cx}{tg iter:Expr}{fi:mT}(h:Iv X tg iter fi):uX X tg iter (Iw fi):=.of (PI.imp h.un λσ H Q q=>by
 obtain⟨ι,σd,g,sh,L,g',G0,S0,h2,p⟩:=q
 obtain⟨⟨nn,L1,g1⟩,h1,e⟩:=Option.map_eq_some_iff.mp h2
 cases e
 exact⟨ι,σd,g,nn,L1,g1,G0,S0,h1,λH' ι' J e1 G1 J1=>p H' ι' J e1 G1 J1⟩)
theorem r_ {nn L:Nat}{t:FG}{c:FT}{e:FE}:∀(k:Nat) (σ:Sg) (g:G),gS nn L t c e k σ g=b_ (λg=>g[nn]?) L t c e k σ g
 | 0,σ,g=>by simp only[gS,b_]
 |k+1,σ,g=>by simp only[gS,b_,r_ k]
theorem Bk {mk:List D->G->Option (D×G)}{fi:mT}{fr:List (Option Nat)}{t:FG}{c:FT}{e:FE}:ke mk fi fr t c e=iN mk (Iw fi) fr t c e:=by
 funext σ g
 unfold ke iN Iw
 cases fi σ g with
 |none=>rfl
 |some r=>simp only[Option.bind_some,Option.map_some,r_]
section
variable {X:Cx}{tg iter elt:Expr}{ifs:List Expr}{scope:Scope}{pos bL:Pos}{N:List Str}{fr:List (Option Nat)}{fi:mT}{t:FG}{c:FT}{e:FE}
theorem Bl (jP:X.xe=λ_ _=>False)(hc:X.calm=true)(ok:eH X N fr scope)(hit:Iv X tg iter fi)(de:∀C s3 H fp pins,DG (bj X N scope C s3 H fp pins) tg t/\gM (bj X N scope C s3 H fp pins) ifs c/\DE (bj X N scope C s3 H fp pins) elt e)
  (hs:∀x,foldedSetIterable iter X.env x=pure x:=by intro _;rfl):DE X (.ListComp elt [⟨tg,iter,ifs,0⟩] scope pos) (ke bA fi fr t c e):=by
 rw[Bk];exact rE jP hc ok (ER hit) de hs
end
section
variable {σ:Sg}{g:G}{fa:FE}
@[simp] theorem P1:Bj fa σ g=(fa σ g).bind λr=>match r.1 with|.ref n=>(r.2[n]?).bind λxs=>some (n,xs.length,r.2)|_=>none:=rfl
@[simp] theorem Ml {mk:List D->G->Option (D×G)}{fi:mT}{fr:List (Option Nat)}{t:FG}{c:FT}:ke mk fi fr t c fa σ g=(fi σ g).bind λr=>if aC r.2.1=true then(gS r.1 r.2.1 t c fa r.2.1 (bM fr σ) r.2.2).bind λq=>mk q.1 q.2 else none:=rfl
end
noncomputable def bz:FE:=λ_ _=>none
theorem bg {X:Cx}{e:Expr}:DE X e bz:=.of (λpins s σ H Q I h=>by
 obtain⟨ι,σd,g,d,g',G0,S0,h,p⟩:=h
 cases h)
@[simp] theorem N8 {σ:Sg}{g:G}:bz σ g=none:=rfl
end L3
namespace L3
open PySem PySem.Spec PyProof.Rows L2
open Sem (wp)
open Builtin
end L3
namespace L3
open PySem PySem.Spec PyProof.Rows L2
end L3
namespace DK
open PySem PySem.Spec PyProof.Rows L2 L3 SeqAt
def dy (s:Shared)(m:Nat)(u:Value):Prop:=∀(prog:Program) (w:World) (A:Around) (E:Value->Shared->Prop) (Q:Bool->Shared->Prop),Q true s->wpAny (model prog w) A (eqIsQuiet m u) Q E s
structure CF (A:Around)(s:Shared)(key:Value)(h:Int)(es:Array DictEntry)(t:Nat->Bool):Prop where
 eq:∀i e,es[i]? = some e->e.hash=h->EqAt A s e.key key (t i)
 hs:∀i e,es[i]? = some e->t i=true->e.hash=h
 qk:dy s 8 key
 qe:∀e∈es,dy s 8 e.key
 rf:∀e∈es,e.key=key->e.hash=h
 un:∀i j,i<es.size->j<es.size->t i=true->t j=true->i=j
 st:∀x tk,key = .str x tk->∀i e,es[i]? = some e->isExactStrKey e.key=true->e.key.isStr x=t i
section
variable {prog:Program}{w:World}{A:Around}{E:Value->Shared->Prop}{s:Shared}{d:Addr}{o:Obj}{es:Array DictEntry}{ep:Nat}{key:Value}{h:Int}{t:Nat->Bool}{Q:Option Nat->Shared->Prop}
theorem ma {stored:List Value}{Q:Bool->Shared->Prop}(hk:dy s 8 key)(cA:∀v∈stored,dy s 8 v)(q:Q false s):wpAny (model prog w) A (tableMayTell key stored) Q E s:=by
 unfold tableMayTell
 split
 . exact wpAny_pure q
 refine wpAny_bind (hk prog w _ _ _ ?_)
 simp only[Bool.not_true,Bool.false_eq_true,if_false]
 refine wpAny_bind (wpAny_forIn_list _ (λrest r z=>z=s/\r=(none,()) /\ ∀v∈rest,dy s 8 v) _ ?_ ?_ _ _ ⟨rfl,rfl,cA⟩)
 . rintro x rest r z ⟨rfl,rfl,hr⟩
   refine wpAny_bind (hr x List.mem_cons_self prog w _ _ _ ?_)
   simp only[Bool.not_true,Bool.false_eq_true,if_false]
   exact wpAny_pure ⟨rfl,rfl,λv hv=>hr v (List.mem_cons_of_mem _ hv)⟩
 . rintro r z ⟨rfl,rfl,_⟩
   exact wpAny_pure q
theorem jx {i:Nat}:i∈placesWithHash es.size (λi=>es[i]?.map (·.hash)) h ↔ ∃e,es[i]? = some e/\e.hash=h:=by
 unfold placesWithHash
 simp only[List.mem_filter,List.mem_range,beq_iff_eq,Option.map_eq_some_iff]
 constructor
 . rintro⟨_,e,a,b⟩;exact⟨e,a,b⟩
 . rintro⟨e,a,b⟩;exact⟨(Array.getElem?_eq_some_iff.mp a).1,e,a,b⟩
theorem sa:(placesWithHash es.size (λi=>es[i]?.map (·.hash)) h).Nodup:=by
 unfold placesWithHash
 exact List.nodup_range.sublist List.filter_sublist
theorem kK (ho:s.heap.get? d=some o)(hd:o.data = .dict es ep)(K:CF A s key h es t)(hn:(∀i,i<es.size->t i=false)->Q none s)(hy:∀i,i<es.size->t i=true->Q (some i) s):
  wpAny (model prog w) A (dictFind d key h) Q E s:=by
 have none_of:(∀i∈placesWithHash es.size (λi=>es[i]?.map (·.hash)) h,t i=false)->Q none s:=λz=>hn λi hi=>by
  cases ht:t i with
  |false=>rfl
  |true =>
    have e1:=Array.getElem?_eq_getElem hi
    rw[z i (jx.mpr ⟨_,e1,K.hs i _ e1 ht⟩)]at ht;cases ht
 have gen:∀tells:Bool,tells=false->wpAny (model prog w) A (do
    let mut hit:Option Nat:=none
    for i in placesWithHash es.size (λi=>es[i]?.map (·.hash)) h do
      if let some e:=es[i]? then
        if e.hash == h then
          let before <- dictEpoch d (keyPart key)
          let same <- eqBool e.key key
          if(<- dictEpoch d (keyPart key)) != before then unsupported "dict.changed-during-lookup"
          if same then
            if hit.isSome then unsupported "dict.find:order-among-keys-of-one-hash"
            rule "dict.find.hit"
            if((placesWithHash es.size (λi=>es[i]?.map (·.hash)) h).filterMap λi=>es[i]?.map (·.key)).length<2 then return some i
            hit:=some i
          else
            rule "dict.find.same-hash-other-key"
            if tells && !(0<=h&&h<32)then unsupported "dict.find:asked-again-or-not-hangs-on-the-table"
    return hit) Q E s:=λtells Q6=>by
  subst Q6
  refine wpAny_bind (wpAny_forIn_list _ (λrest (b:Option (Option Nat)×Option Nat) z=>z=s /\ ∃done,placesWithHash es.size (λi=>es[i]?.map (·.hash)) h=done++rest/\b.1=none /\
    ((b.2=none /\ ∀i∈done,t i=false) \/ ∃i,b.2=some i/\i∈done/\i<es.size/\t i=true)) _ ?_ ?_ _ _ ⟨rfl,[],rfl,rfl,.inl ⟨rfl,λi z=>by simp at z⟩⟩)
  . rintro x rest ⟨b1,hit⟩ z ⟨rfl,done,hp,rfl,hb⟩
    have hx:x∈placesWithHash es.size (λi=>es[i]?.map (·.hash)) h:=by rw[hp];simp
    obtain⟨e,he,hh⟩:=jx.mp hx
    have aU:x<es.size:=(Array.getElem?_eq_some_iff.mp he).1
    have CG:placesWithHash es.size (λi=>es[i]?.map (·.hash)) h=(done ++ [x])++rest:=by rw[hp];simp
    rw[he]
    dsimp only at hb ⊢
    rw[if_pos (by simpa using hh)]
    refine wpAny_bind (wpAny_dictEpoch ho hd (wpAny_bind (K.eq x e he hh prog w _ _ (wpAny_bind (wpAny_dictEpoch ho hd ?_)))))
    rw[if_neg (by simp)]
    cases ht:t x with
    |true =>
      have h0:hit=none:=by
        rcases hb with⟨h0,_⟩|⟨i,_,hi,iM,yR⟩
        . exact h0
        . have:=K.un i x iM aU yR ht
          subst this
          have nd:=sa (es:=es) (h:=h)
          rw[hp,List.nodup_append]at nd
          exact absurd rfl (nd.2.2 i hi i List.mem_cons_self)
      subst h0
      simp only[if_true,Option.isSome_none,Bool.false_eq_true,if_false]
      try refine wpAny_bind (wpAny_pure ?_)
      refine wpAny_bind (wpAny_rule ?_)
      split
      . exact wpAny_pure (wpAny_pure (hy x aU ht))
      . exact wpAny_pure ⟨rfl,done ++ [x],CG,rfl,.inr ⟨x,rfl,by simp,aU,ht⟩⟩
    |false =>
      simp only[Bool.false_eq_true,if_false,Bool.false_and]
      refine wpAny_bind (wpAny_rule ?_)
      refine wpAny_pure ⟨rfl,done ++ [x],CG,rfl,?_⟩
      rcases hb with⟨h0,hz⟩|⟨i,h1,hi,iM,yR⟩
      . exact .inl ⟨h0,λi hi=>by
          rcases List.mem_append.mp hi with hi|hi
          . exact hz i hi
          . simp at hi;subst hi;exact ht⟩
      . exact .inr ⟨i,h1,List.mem_append.mpr (.inl hi),iM,yR⟩
  . rintro⟨b1,hit⟩ z ⟨rfl,done,hp,rfl,hb⟩
    dsimp only at hb ⊢
    refine wpAny_pure ?_
    rcases hb with⟨rfl,hz⟩|⟨i,rfl,_,iM,yR⟩
    . exact none_of (by rw[hp];simpa using hz)
    . exact hy i iM yR
 have plain:wpAny (model prog w) A (dictWalkPlain d key h es (placesWithHash es.size (λi=>es[i]?.map (·.hash)) h)) Q E s:=by
  unfold dictWalkPlain
  refine wpAny_bind (wpAny_forIn_list _ (λrest b z=>z=s /\ ∃done,placesWithHash es.size (λi=>es[i]?.map (·.hash)) h=done++rest/\b=(none,()) /\ ∀i∈done,t i=false) _ ?_ ?_ _ _ ⟨rfl,[],rfl,rfl,λi z=>by simp at z⟩)
  . rintro x rest b z ⟨rfl,done,hp,rfl,hb⟩
    have hx:x∈placesWithHash es.size (λi=>es[i]?.map (·.hash)) h:=by rw[hp];simp
    obtain⟨e,he,hh⟩:=jx.mp hx
    have aU:x<es.size:=(Array.getElem?_eq_some_iff.mp he).1
    rw[he]
    dsimp only
    rw[if_pos (by simpa using hh)]
    refine wpAny_bind (wpAny_dictEpoch ho hd (wpAny_bind (K.eq x e he hh prog w _ _ (wpAny_bind (wpAny_dictEpoch ho hd ?_)))))
    rw[if_neg (by simp)]
    cases ht:t x with
    |true =>
      simp only[if_true]
      refine wpAny_bind (wpAny_rule ?_)
      exact wpAny_pure (wpAny_pure (hy x aU ht))
    |false =>
      simp only[Bool.false_eq_true,if_false]
      refine wpAny_bind (wpAny_rule ?_)
      refine wpAny_pure ⟨rfl,done ++ [x],by rw[hp];simp,rfl,λi hi=>?_⟩
      rcases List.mem_append.mp hi with hi|hi
      . exact hb i hi
      . simp at hi;subst hi;exact ht
  . rintro b z ⟨rfl,done,hp,rfl,hb⟩
    exact wpAny_pure (none_of (by rw[hp];simpa using hb))
 have keys:∀v∈(placesWithHash es.size (λi=>es[i]?.map (·.hash)) h).filterMap (λi=>es[i]?.map (·.key)),dy s 8 v:=λv hv=>by
  obtain⟨i,_,hi⟩:=List.mem_filterMap.mp hv
  obtain⟨e,he,rfl⟩:=Option.map_eq_some_iff.mp hi
  exact K.qe e (Array.mem_of_getElem? he)
 unfold dictFind
 refine wpAny_holding ?_
 refine wpAny_bind (wpAny_dictEntries ho hd ?_)
 cases key with
 |str x tk =>
  refine wpAny_ite_split (λnS=>?_) (λ_=>?_)
  . unfold foundByValue
    have ft:∀i e,es[i]? = some e->e.key.isStr x=t i:=λi e he=>K.st x tk rfl i e he (Array.all_eq_true_iff_forall_mem.mp nS e (Array.mem_of_getElem? he))
    cases hf:es.findIdx? (·.key.isStr x)with
    |none =>
      refine wpAny_pure (hn λi hi=>?_)
      rw[<- ft i _ (Array.getElem?_eq_getElem hi)]
      simpa using (Array.findIdx?_eq_none_iff.mp hf) es[i] (Array.getElem_mem hi)
    |some i =>
      obtain⟨hi,h1,_⟩:=Array.findIdx?_eq_some_iff_getElem.mp hf
      have e1:=Array.getElem?_eq_getElem hi
      rw[ft i _ e1]at h1
      dsimp only
      rw[e1]
      refine wpAny_bind (wpAny_dictEpoch ho hd (wpAny_bind (K.eq i _ e1 (K.hs i _ e1 h1) prog w _ _ (wpAny_bind (wpAny_dictEpoch ho hd ?_)))))
      refine wpAny_ite_split (λz=>by simp at z) (λ_=>?_)
      rw[h1]
      exact wpAny_bind (wpAny_rule (wpAny_pure (hy i hi h1)))
  . refine wpAny_ite_split (λ_=>plain) (λ_=>?_)
    refine wpAny_ite_split (λ_=>wpAny_bind (wpAny_pure ?_)) (λ_=>wpAny_bind (ma K.qk keys ?_))<;>
      exact wpAny_ite_split (λz=>by simp at z) (λ_=>gen false rfl)
 |ref a =>
  refine wpAny_ite_split (λz=>by simp[carriedByValue]at z) (λ_=>?_)
  refine wpAny_ite_split (λz=>?_) (λ_=>?_)
  . rw[<- Array.any_toList,List.any_eq_true]at z
    obtain⟨e,he,hc⟩:=z
    simp only[Bool.and_eq_true,beq_iff_eq,bne_iff_ne,ne_eq]at hc
    exact absurd (K.rf e (Array.mem_toList_iff.mp he) hc.1) hc.2
  . refine wpAny_ite_split (λ_=>wpAny_bind (wpAny_pure ?_)) (λ_=>wpAny_bind (ma K.qk keys ?_))<;>
      exact wpAny_ite_split (λz=>by simp at z) (λ_=>gen false rfl)
 |_ =>
  refine wpAny_ite_split (λ_=>plain) (λ_=>?_)
  refine wpAny_ite_split (λ_=>wpAny_bind (wpAny_pure ?_)) (λ_=>wpAny_bind (ma K.qk keys ?_))<;>
    exact wpAny_ite_split (λz=>by simp at z) (λ_=>gen false rfl)
end
section
variable {X:Cx}{pins:List (Addr×Obj)}{σ:L2.St}{H:Hp}{ι:Ix}{prog:Program}{E:Value->Shared->Prop}
mutual
theorem mU:∀(d:D) {n:Nat} {s:Shared} {A:Around} {x:V} {u:Value} {Q:Int->Shared->Prop},Inv X pins σ H s->aP n d=true->Rel X.kw H ι d x->RelV x u->A.units+n<cLine ->
  (∀tk,Q (hD X.w d) { s with toks:=tk })->wpAny (model prog X.w) A (pyHash u) Q E s
 |.ao,n,s,A,x,u,Q,I,k,r,ru,hu,q=>by
  simp only[Rel]at r;subst r;cases ru
  simp only[hD]at q
  exact PySem.W.pyHash_slot (T:="NoneType") rfl F.slot_NoneType_hash F.entry_NoneType_hash (F.args_NoneType_hash_1 _) (beq_builtin_none _) (.inr (by omega)) (wpAny_bind (wpAny_pure (wpAny_bind (wpAny_mkInt (wpAny_pure ⟨_,_,rfl,q _⟩)))))
 |.int i,n,s,A,x,u,Q,I,k,r,ru,hu,q=>by
  simp only[Rel]at r;subst r;obtain⟨t,rfl⟩:=ru
  simp only[hD]at q
  exact wpAny_pyHash_int (q _)
 |.str y,n,s,A,x,u,Q,I,k,r,ru,hu,q=>by
  simp only[Rel]at r;subst r;obtain⟨t,rfl⟩:=ru
  simp only[hD]at q
  exact wpAny_pyHash_str (q _)
 |.tup xs,n+1,s,A,x,u,Q,I,k,r,ru,hu,q=>by
  simp only[Rel]at r
  obtain⟨a,vs,rfl,hq,hr⟩:=r
  cases ru
  obtain⟨ah,aN,⟨o,h1,h2,m,h3⟩,_⟩:=I.tuple hq.sq
  simp only[hD]at q
  simp only[aP]at k
  refine PySem.W.pyHash_slot (T:="tuple") ⟨o,h1,h2⟩ F.slot_tuple_hash F.entry_tuple_hash (F.args_tuple_hash_1 _) (beq_builtin_none _) (.inr (by omega)) ?_
  show wpAny _ _ (Builtin.Tuple.tupleItemsOf (.ref a) >>= _) _ _ s
  refine wpAny_bind (wpAny_tupleItemsOf h1 h3 (wpAny_bind ?_))
  rw[<- Array.forIn_toList]
  refine vc xs (acc:=#[]) I k hr aN (by rw[in1_units];omega) λtk b hb=>?_
  show wpAny _ _ (retInt (Builtin.Tuple.tupleHashOf b.toList)) _ _ _
  rw[hb]
  exact wpAny_bind (wpAny_mkInt (wpAny_pure ⟨_,_,rfl,q _⟩))
 |.tup xs,0,s,A,x,u,Q,I,k,r,ru,hu,q=>by simp[aP]at k
 |.bl _,n,s,A,x,u,Q,I,k,r,ru,hu,q=>by simp[aP]at k
 |.lst _,n,s,A,x,u,Q,I,k,r,ru,hu,q=>by simp[aP]at k
 |.bF,n,s,A,x,u,Q,I,k,r,ru,hu,q=>by simp[aP]at k
 |.ref _,n,s,A,x,u,Q,I,k,r,ru,hu,q=>by simp[aP]at k
 |.aI _,n,s,A,x,u,Q,I,k,r,ru,hu,q=>by simp[aP]at k
 |.fn _,n,s,A,x,u,Q,I,k,r,ru,hu,q=>by simp[aP]at k
theorem vc:∀(ds:List D) {n:Nat} {s:Shared} {A:Around} {vs:List V} {us:List Value} {acc:Array Int} {Q:Array Int->Shared->Prop},Inv X pins σ H s->eE n ds=true->ae X.kw H ι ds vs->Vals vs us->A.units+n<cLine ->
  (∀tk b,b.toList=acc.toList++uT X.w ds->Q b { s with toks:=tk }) ->
  wpAny (model prog X.w) A (forIn us acc λx r=>do let h <- pyHash x;pure PUnit.unit;pure (ForInStep.yield (r.push h))) Q E s
 | [],n,s,A,vs,us,acc,Q,I,k,r,ru,hu,q=>by
  simp only[ae]at r;subst r;cases ru
  exact wpAny_pure (q s.toks acc (by simp[uT]))
 |d::ds,n,s,A,vs,us,acc,Q,I,k,r,ru,hu,q=>by
  simp only[ae]at r
  obtain⟨v,vr,rfl,hv,hr⟩:=r
  simp only[eE,Bool.and_eq_true]at k
  cases ru with
  |cons r0 rr =>
   rw[List.forIn_cons]
   refine wpAny_bind (wpAny_bind (mU d I k.1 hv r0 hu λtk=>wpAny_bind (wpAny_pure (wpAny_pure ?_))))
   exact vc ds (I.tok tk) k.2 hr rr hu λoT b hb=>q oT b (by simp[hb,uT])
end
mutual
theorem n6:∀(d:D) {n m:Nat} {s:Shared} {x:V} {u:Value},Inv X pins σ H s->aP n d=true->n<=m->Rel X.kw H ι d x->RelV x u->dy s m u
 |.ao,n,m,s,x,u,I,k,hm,r,ru=>by
  simp only[Rel]at r;subst r;cases ru
  intro prog w A E Q q;unfold eqIsQuiet;exact wpAny_pure q
 |.int i,n,m,s,x,u,I,k,hm,r,ru=>by
  simp only[Rel]at r;subst r;obtain⟨t,rfl⟩:=ru
  intro prog w A E Q q;unfold eqIsQuiet;exact wpAny_pure q
 |.str y,n,m,s,x,u,I,k,hm,r,ru=>by
  simp only[Rel]at r;subst r;obtain⟨t,rfl⟩:=ru
  intro prog w A E Q q;unfold eqIsQuiet;exact wpAny_pure q
 |.tup xs,n+1,m,s,x,u,I,k,hm,r,ru=>by
  simp only[Rel]at r
  obtain⟨a,vs,rfl,hq,hr⟩:=r
  cases ru
  obtain⟨ah,aN,⟨o,h1,h2,z,h3⟩,_⟩:=I.tuple hq.sq
  simp only[aP]at k
  intro prog w A E Q q
  have hT:s.TypeIs (.ref a) "tuple":=⟨o,h1,h2⟩
  obtain⟨m,rfl⟩:∃j,m=j+1:=⟨m-1,by omega⟩
  unfold eqIsQuiet
  refine wpAny_bind (wpAny_specialOf hT F.slot_tuple_eq.lookup ?_)
  show wpAny _ _ (isInstance (.ref a) (.type "tuple") >>= _) _ _ s
  refine wpAny_bind (wpAny_isInstance hT isSubtype_tuple_tuple ?_)
  simp only[Bool.not_true,Bool.false_eq_true,if_false]
  refine wpAny_bind (wpAny_seqItems h1 h3 (wpAny_bind ?_))
  show wpAny _ _ (forIn ah.toArray _ _) _ _ s
  rw[<- Array.forIn_toList]
  have Iy:=sd xs (m:=m) I k (by omega) hr aN
  refine wpAny_forIn_list _ (λrest r s'=>r.1=none/\s'=s /\ ∀v∈rest,dy s m v) _ ?_ ?_ _ _ ⟨rfl,rfl,Iy⟩
  . rintro v rest r s' ⟨hr,rfl,nS⟩
    refine wpAny_bind (nS v List.mem_cons_self prog w _ _ _ ?_)
    simp only[Bool.not_true,Bool.false_eq_true,if_false]
    exact wpAny_pure ⟨rfl,rfl,λu Q7=>nS u (List.mem_cons_of_mem _ Q7)⟩
  . rintro⟨r1,r2⟩ s' ⟨hr,rfl,_⟩
    simp only at hr
    subst hr
    exact wpAny_pure q
 |.tup xs,0,m,s,x,u,I,k,hm,r,ru=>by simp[aP]at k
 |.bl _,n,m,s,x,u,I,k,hm,r,ru=>by simp[aP]at k
 |.lst _,n,m,s,x,u,I,k,hm,r,ru=>by simp[aP]at k
 |.bF,n,m,s,x,u,I,k,hm,r,ru=>by simp[aP]at k
 |.ref _,n,m,s,x,u,I,k,hm,r,ru=>by simp[aP]at k
 |.aI _,n,m,s,x,u,I,k,hm,r,ru=>by simp[aP]at k
 |.fn _,n,m,s,x,u,I,k,hm,r,ru=>by simp[aP]at k
theorem sd:∀(ds:List D) {n m:Nat} {s:Shared} {vs:List V} {us:List Value},Inv X pins σ H s->eE n ds=true->n<=m->ae X.kw H ι ds vs->Vals vs us->∀v∈us,dy s m v
 | [],n,m,s,vs,us,I,k,hm,r,ru=>by
  simp only[ae]at r;subst r;cases ru
  intro v hv;simp at hv
 |d::ds,n,m,s,vs,us,I,k,hm,r,ru=>by
  simp only[ae]at r
  obtain⟨v,vr,rfl,hv,hr⟩:=r
  simp only[eE,Bool.and_eq_true]at k
  cases ru with
  |cons r0 rr =>
   intro z hz
   rcases List.mem_cons.mp hz with rfl|hz
   . exact n6 d I k.1 hm hv r0
   . exact sd ds I k.2 hm hr rr z hz
end
end
mutual
theorem gU:∀(d:D) {n:Nat},aP n d=true->flat d=true/\dep d<=n
 |.ao,n,h=>⟨rfl,Nat.zero_le _⟩
 |.int _,n,h=>⟨rfl,Nat.zero_le _⟩
 |.str _,n,h=>⟨rfl,Nat.zero_le _⟩
 |.tup xs,n+1,h=>by
  simp only[aP]at h
  obtain⟨a,b⟩:=o_ xs h
  exact⟨a,by simp only[dep];omega⟩
 |.tup xs,0,h=>by simp[aP]at h
 |.bl _,n,h=>by simp[aP]at h
 |.lst _,n,h=>by simp[aP]at h
 |.bF,n,h=>by simp[aP]at h
 |.ref _,n,h=>by simp[aP]at h
 |.aI _,n,h=>by simp[aP]at h
 |.fn _,n,h=>by simp[aP]at h
theorem o_:∀(ds:List D) {n:Nat},eE n ds=true->az ds=true/\bC ds<=n
 | [],n,h=>⟨rfl,Nat.zero_le _⟩
 |d::ds,n,h=>by
  simp only[eE,Bool.and_eq_true]at h
  obtain⟨a,b⟩:=gU d h.1
  obtain⟨a',b'⟩:=o_ ds h.2
  exact⟨by simp[az,a,a'],by simp only[bC];omega⟩
end
mutual
theorem fS:∀(d e:D) {n m:Nat},aP n d=true->aP m e=true->(au d e=true ↔ d=e)
 |.ao,e,n,m,h,k=>by cases e<;>simp_all[aP,au]
 |.int _,e,n,m,h,k=>by cases e<;>simp_all[aP,au]
 |.str _,e,n,m,h,k=>by cases e<;>simp_all[aP,au]
 |.tup xs,e,n+1,m,h,k=>by
  cases e with
  |tup ys =>
   cases m with
   |zero=>simp[aP]at k
   |succ m =>
    simp only[aP]at h k
    simp only[au,D.tup.injEq]
    exact vd xs ys h k
  |_=>simp_all[aP,au]
 |.tup xs,e,0,m,h,k=>by simp[aP]at h
 |.bl _,e,n,m,h,k=>by simp[aP]at h
 |.lst _,e,n,m,h,k=>by simp[aP]at h
 |.bF,e,n,m,h,k=>by simp[aP]at h
 |.ref _,e,n,m,h,k=>by simp[aP]at h
 |.aI _,e,n,m,h,k=>by simp[aP]at h
 |.fn _,e,n,m,h,k=>by simp[aP]at h
theorem vd:∀(ds es:List D) {n m:Nat},eE n ds=true->eE m es=true->(c9 ds es=true ↔ ds=es)
 | [],es,n,m,h,k=>by cases es<;>simp[c9]
 |d::ds,[],n,m,h,k=>by simp[c9]
 |d::ds,e::es,n,m,h,k=>by
  simp only[eE,Bool.and_eq_true]at h k
  simp only[c9,Bool.and_eq_true,List.cons.injEq,fS d e h.1 k.1,vd ds es h.2 k.2]
end
end DK
namespace L3
noncomputable def dk:List D->D->Option D
 |k::v::r,key=>if au k key=true then some v else dk r key
 |_,_=>none
noncomputable def cE:List D->D->D->List D
 |k::v::r,key,val=>if au k key=true then k::val::r else k::v::cE r key val
 |_,key,val=>[key,val]
noncomputable def tq:List D->D->Nat->Bool
 |k::_::_,key,0=>au k key
 |_::_::r,key,i+1=>tq r key i
 |_,_,_=>false
end L3
namespace DK
open PySem PySem.Spec PyProof.Rows L2 L3 SeqAt
inductive Ent (K:KW)(H:Hp)(ι:Ix):List D->List DictEntry->Prop
 |nil:Ent K H ι [] []
 |cons {k v:D} {kv vv:V} {r:List D} {e:DictEntry} {es:List DictEntry}:aP 6 k=true->e.hash=hD K.w k->Rel K H ι k kv->RelV kv e.key->Rel K H ι v vv->RelV vv e.val->Ent K H ι r es->Ent K H ι (k::v::r) (e::es)
theorem Ent.of {K H ι}:∀{es:List DictEntry} {xs:List D} {vs:List V},Vals vs (mI es)->fQ K.w xs es->ae K H ι xs vs->Ent K H ι xs es
 | [],xs,vs,rv,h,r=>by cases h;exact .nil
 |e::es,xs,vs,rv,h,r=>by
  cases h with
  |cons h1 h2 h3 =>
   simp only[ae]at r
   obtain⟨a,ar,rfl,ha,b,br,rfl,hb,hr⟩:=r
   cases rv with
   |cons r1 rv=>cases rv with
    |cons r2 rv=>exact .cons h1 h2 ha r1 hb r2 (Ent.of rv h3 hr)
theorem Ent.out {K H ι}:∀{es:List DictEntry} {xs:List D},Ent K H ι xs es->fQ K.w xs es /\ ∃vs,Vals vs (mI es)/\ae K H ι xs vs
 | [],xs,h=>by cases h;exact⟨.nil,[],.nil,by simp[ae]⟩
 |e::es,xs,h=>by
  cases h with
  | @cons k v kv vv r _ _ h1 h2 h3 h4 h5 h6 h7 =>
   obtain⟨a,vs,b,c⟩:=h7.out
   refine⟨.cons h1 h2 a,kv::vv::vs,.cons h4 (.cons h6 b),?_⟩
   simp only[ae]
   exact⟨kv,_,rfl,h3,vv,_,rfl,h5,c⟩
theorem Ent.at {K H ι}:∀{es:List DictEntry} {xs:List D} {i:Nat} {e:DictEntry},Ent K H ι xs es->es[i]? = some e->∃k kv,aP 6 k=true/\(aJ xs)[i]? = some k/\e.hash=hD K.w k/\Rel K H ι k kv/\RelV kv e.key /\ ∀key,tq xs key i=au k key
 | [],xs,i,e,h,q=>by simp at q
 |e0::es,xs,i,e,h,q=>by
  cases h with
  |cons h1 h2 h3 h4 h5 h6 h7 =>
   cases i with
   |zero=>simp at q;subst q;exact⟨_,_,h1,rfl,h2,h3,h4,λ_=>rfl⟩
   |succ i =>
    obtain⟨k,kv,a,b,c,d,e',f⟩:=h7.at (i:=i) (by simpa using q)
    exact⟨k,kv,a,by simpa[aJ]using b,c,d,e',λkey=>f key⟩
theorem Ent.len {K H ι}:∀{es:List DictEntry} {xs:List D},Ent K H ι xs es->(aJ xs).length=es.length
 | [],xs,h=>by cases h;rfl
 |e::es,xs,h=>by
  cases h with
  |cons h1 h2 h3 h4 h5 h6 h7=>simp[aJ,h7.len]
theorem Ent.none_ {K H ι}:∀{es:List DictEntry} {xs:List D} {key:D},Ent K H ι xs es->(∀i,i<es.length->tq xs key i=false)->dk xs key=none /\ ∀v,cE xs key v=xs ++ [key,v]
 | [],xs,key,h,q=>by cases h;exact⟨rfl,λ_=>rfl⟩
 |e::es,xs,key,h,q=>by
  cases h with
  |cons h1 h2 h3 h4 h5 h6 h7 =>
   have q0:=q 0 (by simp)
   simp only[tq]at q0
   obtain⟨a,b⟩:=h7.none_ (key:=key) λi hi=>by have:=q (i+1) (by simpa using hi);simpa[tq]using this
   exact⟨by simp[dk,q0,a],λv=>by simp[cE,q0,b]⟩
theorem Ent.mV {K H ι}{key:D}:∀{es:List DictEntry} {xs:List D} {i:Nat},Ent K H ι xs es->i<es.length->tq xs key i=true->(∀j,j<es.length->tq xs key j=true->j=i) ->
  ∃e v vv,es[i]? = some e/\dk xs key=some v/\Rel K H ι v vv/\RelV vv e.val/\aJ (cE xs key v)=aJ xs /\
   ∀(w:D) (wv:V) (u:Value),Rel K H ι w wv->RelV wv u->Ent K H ι (cE xs key w) (es.modify i λe=>{ e with val:=u })/\aJ (cE xs key w)=aJ xs
 | [],xs,i,h,hi,q,un=>by simp at hi
 |e0::es,xs,i,h,hi,q,un=>by
  cases h with
  | @cons k v kv vv r _ _ h1 h2 h3 h4 h5 h6 h7 =>
   cases i with
   |zero =>
    simp only[tq]at q
    refine⟨e0,v,vv,rfl,by simp[dk,q],h5,h6,by simp[cE,q,aJ],λw wv u rw_ ru=>⟨?_,by simp[cE,q,aJ]⟩⟩
    simp only[cE,q,if_true,List.modify_zero_cons]
    exact .cons h1 h2 h3 h4 rw_ ru h7
   |succ i =>
    have q0:au k key=false:=by
     cases hk:au k key with
     |false=>rfl
     |true=>exact absurd (un 0 (by simp) (by simpa[tq]using hk)) (by omega)
    obtain⟨e,v',Q8,a,b,c,d,f,g⟩:=h7.mV (i:=i) (by simpa using hi) (by simpa[tq]using q) λj hj z=>by
     have:=un (j+1) (by simpa using hj) (by simpa[tq]using z)
     omega
    refine⟨e,v',Q8,by simpa using a,by simp[dk,q0,b],c,d,by simp[cE,q0,aJ,f],λw wv u rw_ ru=>?_⟩
    obtain⟨g1,g2⟩:=g w wv u rw_ ru
    simp only[cE,q0,Bool.false_eq_true,if_false,List.modify_succ_cons]
    exact⟨.cons h1 h2 h3 h4 h5 h6 g1,by simp[aJ,g2]⟩
theorem Ent.push {K H ι}{k v:D}{kv vv:V}{e:DictEntry}(h1:aP 6 k=true)(h2:e.hash=hD K.w k)(h3:Rel K H ι k kv)(h4:RelV kv e.key)(h5:Rel K H ι v vv)(h6:RelV vv e.val):
  ∀{es:List DictEntry} {xs:List D},Ent K H ι xs es->Ent K H ι (xs ++ [k,v]) (es ++ [e])/\aJ (xs ++ [k,v])=aJ xs ++ [k]
 | [],xs,h=>by cases h;exact⟨.cons h1 h2 h3 h4 h5 h6 .nil,rfl⟩
 |e0::es,xs,h=>by
  cases h with
  |cons a1 a2 a3 a4 a5 a6 a7 =>
   obtain⟨b1,b2⟩:=Ent.push h1 h2 h3 h4 h5 h6 a7
   exact⟨.cons a1 a2 a3 a4 a5 a6 b1,by simp[aJ,b2]⟩
section
variable {X:Cx}{pins:List (Addr×Obj)}{σ:L2.St}{H:Hp}{ι:Ix}{s:Shared}
theorem mW (I:Inv X pins σ H s){A:Around}{d e:D}{x y:V}{u v:Value}(fd:flat d=true)(fe:flat e=true)(rd:Rel X.kw H ι d x)(re:Rel X.kw H ι e y)(ru:RelV x u)(rv:RelV y v)(hu:A.units+dep d<cLine):EqAt A s u v (au d e):=by
 refine mP (rK I d e (A:=A) fd fe rd re ru rv hu) (λHR=>?_) (λb t ef=>Rel.u7 rd (by rw[ef]at ru;exact ru))
 subst HR
 have HS:=ru.inj rv
 subst HS
 have HU:=Rel.inj I d e fd fe rd re
 subst HU
 exact gO d fd
theorem fq (I:Inv X pins σ H s){A:Around}(hu:A.units+8<cLine){xs:List D}{es:List DictEntry}(en:Ent X.kw H ι xs es)(nd:(aJ xs).Nodup){key:D}{x:V}{u:Value}(hk:aP 6 key=true)(r:Rel X.kw H ι key x)(ru:RelV x u):
  CF A s u (hD X.w key) es.toArray (tq xs key) where
 eq:=λi e he hh=>by
  obtain⟨k,kv,a,b,c,d,f,g⟩:=en.at (i:=i) (by simpa using he)
  rw[g key]
  obtain⟨f1,f2⟩:=gU k a
  exact mW I f1 (gU key hk).1 d r f ru (by omega)
 hs:=λi e he ht=>by
  obtain⟨k,kv,a,b,c,d,f,g⟩:=en.at (i:=i) (by simpa using he)
  rw[g key]at ht
  rw[c,(fS k key a hk).mp ht]
 qk:=n6 key I hk (by omega) r ru
 qe:=λe he=>by
  obtain⟨i,hi⟩:=List.mem_iff_getElem?.mp (by simpa using he)
  obtain⟨k,kv,a,b,c,d,f,g⟩:=en.at hi
  exact n6 k I a (by omega) d f
 rf:=λe he ek=>by
  obtain⟨i,hi⟩:=List.mem_iff_getElem?.mp (by simpa using he)
  obtain⟨k,kv,a,b,c,d,f,g⟩:=en.at hi
  rw[ek]at f
  have:=f.inj ru
  subst this
  rw[c,Rel.inj I k key (gU k a).1 (gU key hk).1 d r]
 un:=λi j hi hj ti tj=>by
  obtain⟨e,he⟩:∃e,es[i]? = some e:=⟨_,List.getElem?_eq_getElem (by simpa using hi)⟩
  obtain⟨e',Iz⟩:∃e,es[j]? = some e:=⟨_,List.getElem?_eq_getElem (by simpa using hj)⟩
  obtain⟨k,kv,a,b,c,d,f,g⟩:=en.at he
  obtain⟨k',Q9,a',b',c',d',f',g'⟩:=en.at Iz
  rw[g key]at ti
  rw[g' key]at tj
  rw[(fS k key a hk).mp ti]at b
  rw[(fS k' key a' hk).mp tj]at b'
  exact(List.getElem?_inj (List.getElem?_eq_some_iff.mp b).1 nd).mp (b.trans b'.symm)
 st:=λy tk e0 i e he hx=>by
  subst e0
  obtain⟨k,kv,a,b,c,d,f,g⟩:=en.at (i:=i) (by simpa using he)
  rw[g key]
  have kx:key = .str y:=by
   cases key with
   |str z=>simp only[Rel]at r;subst r;obtain⟨t,q⟩:=ru;cases q;rfl
   |ao=>simp only[Rel]at r;subst r;cases ru
   |int z=>simp only[Rel]at r;subst r;obtain⟨t,q⟩:=ru;cases q
   |tup z=>simp only[Rel]at r;obtain⟨_,_,rfl,_⟩:=r;cases ru
   |_=>simp[aP]at hk
  subst kx
  cases k with
  |str z =>
   simp only[Rel]at d;subst d;obtain⟨t,q⟩:=f
   rw[q]
   simp only[Value.isStr,au]
  |ao=>simp only[Rel]at d;subst d;rw[f]at hx;cases hx
  |int z=>simp only[Rel]at d;subst d;obtain⟨t,q⟩:=f;rw[q]at hx;cases hx
  |tup z=>simp only[Rel]at d;obtain⟨_,_,rfl,_⟩:=d;rw[show e.key=_ from f]at hx;cases hx
  |_=>simp[aP]at a
end
section
variable {X:Cx}{pins:List (Addr×Obj)}{σ:L2.St}{H:Hp}{ι:Ix}{s:Shared}{A:Around}{E:Value->Shared->Prop}{a:Addr}{xs:List D}{es:List DictEntry}{c:Nat}{key:D}{x:V}{u:Value}
theorem dN (I:Inv X pins σ H s)(hH:H a=some (dO a es c)):s.heap.get? a=some { cls:=.type "dict",data:=.dict es.toArray (es.length-c) }:=
 (show b8 X.prog X.w H s.heap a (dO a es c) from I.aV a _ hH).1
theorem p_ (I:Inv X pins σ H s)(hH:H a=some (dO a es c)):∃ep,s.heap.get? a=some { cls:=.type "dict",data:=.dict es.toArray ep }:=⟨_,dN I hH⟩
theorem qa (I:Inv X pins σ H s)(hH:H a=some (dO a es c)):s.TypeIs (.ref a) "dict":=let⟨_,h⟩:=p_ I hH;⟨_,h,rfl⟩
theorem yS (I:Inv X pins σ H s)(hu:A.units+8<cLine)(hH:H a=some (dO a es c))(en:Ent X.kw H ι xs es)(nd:(aJ xs).Nodup)(hk:aP 6 key=true)(r:Rel X.kw H ι key x)(ru:RelV x u){Q:Option Value->Shared->Prop}
   (hn:dk xs key=none->∀tk,Q none { s with toks:=tk }) (hs:∀v,dk xs key=some v->∀tk vv z,Rel X.kw H ι v vv->RelV vv z->Q (some z) { s with toks:=tk }):wpAny (model X.prog X.w) A (dictGet a u) Q E s:=by
 obtain⟨ep,ho⟩:=p_ I hH
 unfold dictGet
 refine wpAny_holding (wpAny_bind (mU key I hk r ru (by omega) λtk=>wpAny_bind (kK (s:={ s with toks:=tk }) ho rfl (fq (I.tok tk) hu en nd hk r ru) (λz=>?_) (λi hi ht=>?_))))
 . exact wpAny_pure (hn (en.none_ λi hi=>z i (by simpa using hi)).1 tk)
 . have K:=fq (I.tok tk) hu en nd hk r ru (A:=A)
   obtain⟨e,v,vv,h1,h2,h3,h4,_⟩:=en.mV (key:=key) (by simpa using hi) ht λj hj z=>(K.un i j hi (by simpa using hj) ht z).symm
   refine wpAny_bind (wpAny_dictEntries (s:={ s with toks:=tk }) ho rfl ?_)
   have:es.toArray[i]? = some e:=by simpa using h1
   rw[this]
   exact wpAny_pure (hs v h2 tk vv _ h3 h4)
theorem yT (I:Inv X pins σ H s)(hH:H a=some (dO a es c))(en:Ent X.kw H ι xs es)(nd:(aJ xs).Nodup)(hk:aP 6 key=true)(r:Rel X.kw H ι key x)(ru:RelV x u){v:D}(hv:dk xs key=some v):
   ∃vv z,Rel X.kw H ι v vv/\RelV vv z /\ ∀{A:Around} {E:Value->Shared->Prop} {Q:Option Value->Shared->Prop},A.units+8<cLine->(∀tk,Q (some z) { s with toks:=tk })->wpAny (model X.prog X.w) A (dictGet a u) Q E s:=by
 obtain⟨ep,ho⟩:=p_ I hH
 have hex:∃i,i<es.length/\tq xs key i=true:=by
   refine Classical.byContradiction λno=>?_
   have:=(en.none_ (key:=key) λi hi=>by
    cases h:tq xs key i with
    |false=>rfl
    |true=>exact absurd ⟨i,hi,h⟩ no).1
   rw[hv]at this;cases this
 obtain⟨i,hi,ht⟩:=hex
 have un:∀j,j<es.length->tq xs key j=true->j=i:=λj hj z=>by
   obtain⟨k,kv,a1,b1,_,_,_,g⟩:=en.at (List.getElem?_eq_getElem hi)
   obtain⟨k',Q9,a2,b2,_,_,_,g'⟩:=en.at (List.getElem?_eq_getElem hj)
   rw[g]at ht
   rw[g']at z
   rw[(fS k key a1 hk).mp ht]at b1
   rw[(fS k' key a2 hk).mp z]at b2
   exact(List.getElem?_inj (List.getElem?_eq_some_iff.mp b2).1 nd).mp (b2.trans b1.symm)
 obtain⟨e,v',vv,h1,h2,h3,h4,_⟩:=en.mV (key:=key) hi ht un
 rw[hv]at h2;cases h2
 refine⟨vv,e.val,h3,h4,fun {A E Q} hu q=>?_⟩
 unfold dictGet
 refine wpAny_holding (wpAny_bind (mU key I hk r ru (by omega) λtk=>wpAny_bind (kK (s:={ s with toks:=tk }) ho rfl (fq (I.tok tk) hu en nd hk r ru) (λz=>?_) (λj hj tj=>?_))))
 . have:=z i (by simpa using hi);rw[ht]at this;cases this
 . have:=un j (by simpa using hj) tj
   subst this
   refine wpAny_bind (wpAny_dictEntries (s:={ s with toks:=tk }) ho rfl ?_)
   have:es.toArray[j]? = some e:=by simpa using h1
   rw[this]
   exact wpAny_pure (q tk)
theorem pb (I:Inv X pins σ H s)(hu:A.units+8<cLine)(hH:H a=some (dO a es c))(eP:c<=es.length)(hz:es.length<=sizeLine)(en:Ent X.kw H ι xs es)(nd:(aJ xs).Nodup)(hk:aP 6 key=true)(r:Rel X.kw H ι key x)(ru:RelV x u){v:D}{vv:V}{z:Value}(rv:Rel X.kw H ι v vv)(rz:RelV vv z){Q:Unit->Shared->Prop}
   (h:∀tk h' aW,Ent X.kw H ι (cE xs key v) aW->(aJ (cE xs key v)).Nodup->aW.length<=es.length+1->c<=aW.length->h'.get? a=some { cls:=.type "dict",data:=.dict aW.toArray (aW.length-c) }->Heap.SameBut a s.heap h'->Q () { s with heap:=h',toks:=tk }):
   wpAny (model X.prog X.w) A (dictSet a u z) Q E s:=by
 have ho:=dN I hH
 unfold dictSet
 refine wpAny_holding (wpAny_bind (mU key I hk r ru (by omega) λtk=>?_))
 unfold dictSetHashed
 refine wpAny_holding (wpAny_bind (kK (s:={ s with toks:=tk }) ho rfl (fq (I.tok tk) hu en nd hk r ru) (λy=>?_) (λi hi ht=>?_)))
 . obtain⟨_,yU⟩:=en.none_ (key:=key) λi hi=>y i (by simpa using hi)
   obtain⟨e1,e2⟩:=Ent.push (e:=⟨hD X.w key,u,z⟩) hk rfl r ru rv rz en
   refine wpAny_bind (wpAny_rule (wpAny_updateDictKeys (hz:=by simpa using hz) (s:={ s with toks:=tk }) ho rfl ?_))
   refine h tk _ (es ++ [⟨hD X.w key,u,z⟩]) (by rw[yU];exact e1) ?_ (by simp) (by simp;omega) ?_ (Heap.SameBut.update ..)
   . rw[yU,e2,List.nodup_append]
     refine⟨nd,by simp,λk yE k' yV=>?_⟩
     simp at yV;subst yV
     rintro rfl
     obtain⟨i,hi,e⟩:=List.mem_iff_getElem.mp yE
     have iM:i<es.length:=by rw[<- en.len];exact hi
     obtain⟨k,kv,a1,b1,_,_,_,g⟩:=en.at (List.getElem?_eq_getElem iM)
     rw[List.getElem?_eq_getElem hi,e]at b1
     cases b1
     have:=y i (by simpa using iM)
     rw[g,(fS _ _ hk hk).mpr rfl]at this
     cases this
   . have q:=Heap.get?_update_self (h:=s.heap) (Obj.mapDictKeys (·.push ⟨hD X.w key,u,z⟩)) ho rfl
     rw[q];simp[Obj.mapDictKeys];omega
 . have K:=fq (I.tok tk) hu en nd hk r ru (A:=A)
   obtain⟨e,v0,Q_,h1,h2,h3,h4,_,h5⟩:=en.mV (key:=key) (by simpa using hi) ht λj hj y=>(K.un i j hi (by simpa using hj) ht y).symm
   obtain⟨h6,h7⟩:=h5 v vv z rv rz
   refine wpAny_bind (wpAny_rule (wpAny_bind (wpAny_updateDict (s:={ s with toks:=tk }) ho rfl ?_)))
   refine wpAny_point ?_
   refine h tk _ (es.modify i λe=>{ e with val:=z }) h6 (by rw[h7];exact nd) (by simp) (by simpa using eP) ?_ (Heap.SameBut.update ..)
   have q:=Heap.get?_update_self (h:=s.heap) (Obj.mapDict (·.modify i λe=>{ e with val:=z })) ho rfl
   rw[q];simp[Obj.mapDict]
end
end DK
namespace L3
open PySem PySem.Spec PyProof.Rows L2 SeqAt DK
noncomputable def aD (d1 d2:D)(g:G):Option (D×G):=match d1 with
 |.aI n=>(g[n]?).bind λxs=>if aP 6 d2=true then(dk xs d2).map λd=>(d,g)else none
 |d1=>rM d1 d2 g
section
variable {X:Cx}
theorem ES (hu:X.A.units+64<cLine):jI X (ck X.kw aD):=by
 intro value slice pins s σ H x y v u Q I rx ry q hs
 obtain⟨ι,g,d1,d2,d,g',G0,r1,r2,q,p⟩:=q
 cases d1 with
 |aI n =>
  simp only[aD]at q
  obtain⟨xs,hx,q⟩:=bind_some q
  split at q
  . rename_i hk
    simp only[Rel]at r1
    obtain⟨a,rfl,ha⟩:=r1
    cases rx
    obtain⟨es,vs,c,hH,mX,eP,rv,hh,nd,sy,sz,rl⟩:=G0.iJ hx ha
    have en:=Ent.of rv hh rl
    cases hv:dk xs d2 with
    |none=>rw[hv]at q;cases q
    |some dv =>
     rw[hv]at q;cases q
     obtain⟨vv,z,h1,h2,h3⟩:=yT I hH en nd hk r2 ry hv
     have hT:=qa I hH
     refine subscriptTail_builtinR (x:=z) hT slot_dict_getitem.lookup ?_ hs
     unfold getItem
     refine wpAny_holding (wpAny_bind (wpAny_sequenceKey hT (by decide) ?_))
     refine wpAny_bind (wpAny_callSpecial?_slot (name:=Str.ofString "__getitem__") hT slot_dict_getitem (wpAny_call_entry slot_dict_getitem hT entry_dict_getitem ?_ (args_dict_getitem _ _)))
     show wpAny _ _ (dictGet a u >>= _) _ _ s
     refine wpAny_bind (h3 (by rw[in1_units];omega) λtk=>?_)
     exact wpAny_pure ⟨z,rfl,wpAny_pure ⟨rfl,vv,H,I.tok tk,h2,p H ι vv Ext.refl G0 h1⟩⟩
  . cases q
 |_=>exact Eu value slice pins s σ H x y v u Q I rx ry ⟨ι,g,_,d2,d,g',G0,r1,r2,q,p⟩ hs
theorem IA {a b:Expr}{fa fb:FE}{pos:Pos}(hu:X.A.units+64<cLine)(ha:DE X a fa)(hb:DE X b fb)(hs:iG b:=by exact λ_ _=>rfl):DE X (.Subscript a b pos) (ai aD fa fb):=.of (
 PE.imp (v7 (ES hu) ha.un hb.un hs) λσ H Q h=>mK h)
end
noncomputable def CH (d1:D)(xs:List D):Option Bool:=if(flat d1&&az xs&&decide (bC xs<=50))=true then some (xs.any λy=>au y d1)else none
noncomputable def lJ (d1 d2:D)(g:G):Option Bool:=match d2 with
 |.aI n=>(g[n]?).bind λxs=>if aP 6 d1=true then some (dk xs d1).isSome else none
 |d2=>(cM d2 g).bind (CH d1)
noncomputable def md (d1 d2:D)(g:G):Option (D×G):=(lJ d1 d2 g).map λb=>(.bl b,g)
noncomputable def n8 (d1 d2:D)(g:G):Option (D×G):=(lJ d1 d2 g).map λb=>(.bl (!b),g)
theorem yW {d1 d2:D}{g:G}{b:Bool}(h:lJ d1 d2 g=some b):(∃n,d2 = .aI n) \/ ∃xs,cM d2 g=some xs/\CH d1 xs=some b:=by
 cases d2 with
 |aI n=>exact .inl ⟨n,rfl⟩
 |_=>simp only[lJ]at h;exact .inr (bind_some h)
section
variable {X:Cx}
theorem d9:∀{xs:List D} {i:Nat} {d:D},az xs=true->xs[i]? = some d->flat d=true/\dep d<=bC xs
 | [],i,d,h,e=>by simp at e
 |x::xs,0,d,h,e=>by
  simp at e;subst e
  simp only[az,Bool.and_eq_true]at h
  exact⟨h.1,by simp only[bC];omega⟩
 |x::xs,i+1,d,h,e=>by
  simp only[az,Bool.and_eq_true]at h
  obtain⟨a,b⟩:=d9 (i:=i) h.2 (by simpa using e)
  exact⟨a,by simp only[bC];omega⟩
theorem se {pins:List (Addr×Obj)}{σ:L2.St}{H:Hp}{s:Shared}{ι:Ix}(I:Inv X pins σ H s){A:Around}{key:D}{x:V}{u:Value}(fk:flat key=true)(r:Rel X.kw H ι key x)(ru:RelV x u){n:Nat}(hu:A.units+n<cLine):
   ∀{xs:List D} {vs:List V} {us:List Value},az xs=true->bC xs<=n->ae X.kw H ι xs vs->Vals vs us->∃e:Value->Bool,(∀y,y∈us->EqAt A s y u (e y))/\us.any e=xs.any (λy=>au y key):=by
 classical
 intro xs vs us fx hn rl rv
 refine⟨λy=>decide (∃d v,Rel X.kw H ι d v/\RelV v y/\flat d=true/\au d key=true),λy hy=>?_,?_⟩
 . obtain⟨i,hi,e⟩:=List.mem_iff_getElem.mp hy
   have Ra:i<vs.length:=by rw[rv.length];exact hi
   have Mm:i<xs.length:=by rw[rl.length];exact Ra
   obtain⟨v,h1,h2⟩:=rl.get (List.getElem?_eq_getElem Mm)
   obtain⟨z,h3,h4⟩:=rv.get h1
   rw[List.getElem?_eq_getElem hi,e]at h3
   cases h3
   obtain⟨f1,f2⟩:=d9 fx (List.getElem?_eq_getElem Mm)
   have key_:=mW I f1 fk h2 r h4 ru (A:=A) (by omega)
   have:decide (∃d v,Rel X.kw H ι d v/\RelV v y/\flat d=true/\au d key=true)=au xs[i] key:=by
    cases hq:au xs[i] key with
    |true=>exact decide_eq_true ⟨_,_,h2,h4,f1,hq⟩
    |false =>
     refine decide_eq_false ?_
     rintro⟨d,v',a,b,c,e'⟩
     have:=b.inj h4
     subst this
     rw[Rel.inj I d _ c f1 a h2,hq]at e'
     cases e'
   show EqAt A s y u (decide _);rw[this];exact key_
 . induction xs generalizing vs us with
   |nil=>simp only[ae]at rl;subst rl;cases rv;rfl
   |cons d ds ih =>
    simp only[ae]at rl
    obtain⟨v,vr,rfl,h2,hr⟩:=rl
    cases rv with
    |cons r0 rr =>
     simp only[az,Bool.and_eq_true]at fx
     simp only[bC]at hn
     rw[List.any_cons,List.any_cons,ih fx.2 (by omega) hr rr]
     congr 1
     cases hq:au d key with
     |true=>exact decide_eq_true ⟨_,_,h2,r0,fx.1,hq⟩
     |false =>
      refine decide_eq_false ?_
      rintro⟨d',v',a,b,c,e'⟩
      have:=b.inj r0
      subst this
      rw[Rel.inj I d' _ c fx.1 a h2,hq]at e'
      cases e'
theorem ve (neg:Bool)(hu:X.A.units+64<cLine):aX X (compareOp (if neg then .NotIn else .In)) (ck X.kw λd1 d2 g=>(lJ d1 d2 g).map λb=>(.bl (if neg then !b else b),g)):=by
 intro pins s σ H x y v u Q I rx ry q
 obtain⟨ι,g,d1,d2,d,g',G0,r1,r2,q,p⟩:=q
 obtain⟨b,hb,q⟩:=Option.map_eq_some_iff.mp q
 cases q
 have fin:∀tk,EP X pins σ Q (.bool (if neg then !b else b)) { s with toks:=tk }:=λtk=>⟨.bl _,H,I.tok tk,rfl,p H ι _ Ext.refl G0 (by simp[Rel])⟩
 rcases yW hb with⟨n,rfl⟩|⟨xs,hx,hb⟩
 . simp only[lJ]at hb
   obtain⟨xs,hx,hb⟩:=bind_some hb
   split at hb
   . rename_i hk
     cases hb
     simp only[Rel]at r2
     obtain⟨a,rfl,ha⟩:=r2
     cases ry
     obtain⟨es,vs,c,hH,mX,eP,rv,hh,nd,sy,sz,rl⟩:=G0.iJ hx ha
     have en:=Ent.of rv hh rl
     have hT:=qa I hH
     have core:∀{Q':Bool->Shared->Prop},(∀tk,Q' (dk xs d1).isSome { s with toks:=tk })->wpAny (model X.prog X.w) X.A (contains (.ref a) v) Q' X.xe s:=fun {Q'} fin=>by
       unfold contains
       refine wpAny_holding (wpAny_bind (wpAny_specialOf hT slot_dict_contains.lookup ?_))
       refine wpAny_ite_split (λz=>by rw[beq_builtin_none]at z;cases z) (λ_=>?_)
       refine wpAny_bind (wpAny_callSpecialUnlessNone?_slot (name:=Str.ofString "__contains__") hT slot_dict_contains (wpAny_call_entry slot_dict_contains hT entry_dict_contains ?_ (args_dict_contains _ _)))
       show wpAny _ _ (dictGet a v >>= _) _ _ s
       refine wpAny_bind (yS I (by rw[in1_units];omega) hH en nd hk r1 rx (λhn tk=>?_) (λw hs tk vv z _ _=>?_))
       . rw[hn]at fin
         show wpAny _ _ (Builtin.Dict.pendingKey? a v >>= _) _ _ _
         exact wpAny_bind (wpAny_pendingKey_other sy (wpAny_pure ⟨_,rfl,wpAny_truthy_bool (fin tk)⟩))
       . rw[hs]at fin
         show wpAny _ _ (ret (.bool true)) _ _ _
         exact wpAny_pure ⟨_,rfl,wpAny_truthy_bool (fin tk)⟩
     cases neg with
     |false=>exact(show wpAny _ _ (do return Value.bool (<- contains (.ref a) v)) _ _ s from wpAny_bind (core λtk=>wpAny_pure (fin tk)))
     |true=>exact(show wpAny _ _ (do return Value.bool (!(<- contains (.ref a) v))) _ _ s from wpAny_bind (core λtk=>wpAny_pure (fin tk)))
   . cases hb
 . unfold CH at hb
   split at hb
   . rename_i z
     simp only[Bool.and_eq_true,decide_eq_true_eq]at z
     cases hb
     obtain⟨a,vs,rfl,hq,hr⟩:=ib G0 r2 hx
     cases ry
     rcases hq with hq|hq
     . obtain⟨ah,aN,ht,_⟩:=I.list hq
       obtain⟨e,h1,h2⟩:=se I (A:=X.A.in1) z.1.1 r1 rx (n:=50) (by rw[in1_units];omega) z.1.2 z.2 hr aN
       have fin:=fin s.toks
       rw[<- h2]at fin
       cases neg with
       |false=>exact in_listAt e ht.isList (λy hy=>h1 y (by simpa using hy)) (by simpa using fin)
       |true=>exact notIn_listAt e ht.isList (λy hy=>h1 y (by simpa using hy)) (by simpa using fin)
     . obtain⟨ah,aN,ht,_⟩:=I.tuple hq
       obtain⟨e,h1,h2⟩:=se I (A:=X.A.in1) z.1.1 r1 rx (n:=50) (by rw[in1_units];omega) z.1.2 z.2 hr aN
       have fin:=fin s.toks
       rw[<- h2]at fin
       cases neg with
       |false=>exact in_tupleAt e ht (λy hy=>h1 y (by simpa using hy)) (by simpa using fin)
       |true=>exact notIn_tupleAt e ht (λy hy=>h1 y (by simpa using hy)) (by simpa using fin)
   . cases hb
theorem IB (hu:X.A.units+64<cLine):aX X (compareOp .In) (ck X.kw md):=ve false hu
theorem yX (hu:X.A.units+64<cLine):aX X (compareOp .NotIn) (ck X.kw n8):=ve true hu
end
section
variable {X:Cx}{pins:List (Addr×Obj)}{σ:L2.St}{H:Hp}{ι:Ix}{s:Shared}{g:G}{a:Addr}{n:Nat}{xs:List D}{es:List DictEntry}{c:Nat}
theorem me (I:Inv X pins σ H s)(hH:H a=some (dO a es c)){aW:List DictEntry}{h':Heap}{tk:Nat}(hg:h'.get? a=some { cls:=.type "dict",data:=.dict aW.toArray (aW.length-c) })(sb:Heap.SameBut a s.heap h'):
  Inv X pins σ (upd H a (dO a aW c)) { s with heap:=h',toks:=tk }:=by
 refine I.write (x:=a) (e:=a) (o:=dO a aW c) (t':=tk) (by rw[hH];exact True.intro) (.inl rfl) (λb u hb q=>?_) ⟨_,hg⟩ ⟨hg,⟨_,hg⟩,λh1 h2 q k=>k _ q⟩
 rw[sb.2 b hb];exact q
theorem mf (G0:ak X.kw H ι g)(ha:cj ι n a true)(mX:ι.kd n=c+1)(hH:H a=some (dO a es c)){yM:List D}{aW:List DictEntry}(en:Ent X.kw H ι yM aW)(nd:(aJ yM).Nodup)(sy:(a == sysModules)=false)(eP:c<=aW.length)(sz:aW.length<=sizeLine):
  ak X.kw (upd H a (dO a aW c)) ι (g.set n yM):=by
 obtain⟨h1,vs,h2,h3⟩:=en.out
 exact G0.Hg ha hH (by rw[mX];exact .d c aW vs eP h2 h1 nd sy sz) h3
end
noncomputable def mY (xs:List D):Bool:=aC (xs.length / 2+1)
noncomputable def gV (o i v:D)(g:G):Option G:=match o with
 |.aI n=>(g[n]?).bind λxs=>if(aP 6 i&&mY xs)=true then some (g.set n (cE xs i v))else none
 |o=>putD o i v g
inductive CI (K:KW)(o i v:V)(H:Hp)(Q:Hp->Prop):Prop
 |mk (ι:Ix) (g:G) (d1 d2 d3:D) (g':G) (h0:ak K H ι g) (h1:Rel K H ι d1 o) (h2:Rel K H ι d2 i) (h3:Rel K H ι d3 v) (h4:gV d1 d2 d3 g=some g') (h5:∀H' ι',Ext H ι H' ι'->ak K H' ι' g'->Q H'):CI K o i v H Q
theorem n9 {K H ι}{xs:List D}{es:List DictEntry}(en:Ent K H ι xs es):xs.length=2*es.length:=by
 induction en with
 |nil=>rfl
 |cons _ _ _ _ _ _ _ ih=>simp[ih];omega
section
variable {X:Cx}
theorem ET (hu:X.A.units+64<cLine):Ax X (CI X.kw):=by
 intro pins s σ H o i v ov iv u Q I ro ri rv q
 obtain⟨ι,g,d1,d2,d3,g',G0,r1,r2,r3,q,p⟩:=q
 cases d1 with
 |aI n =>
  simp only[gV]at q
  obtain⟨xs,hx,q⟩:=bind_some q
  split at q
  . rename_i hk
    simp only[Bool.and_eq_true]at hk
    cases q
    simp only[Rel]at r1
    obtain⟨a,rfl,ha⟩:=r1
    cases ro
    obtain⟨es,vs,c,hH,mX,eP,pd,hh,nd,sy,sz,rl⟩:=G0.iJ hx ha
    have en:=Ent.of pd hh rl
    have hT:=qa I hH
    have hz:=aC.le hk.2
    rw[n9 en]at hz
    unfold setItem
    refine wpAny_holding (wpAny_bind (wpAny_sequenceKey hT (by decide) ?_))
    refine wpAny_bind (wpAny_callSpecial?_slot (name:=Str.ofString "__setitem__") hT slot_dict_setitem (wpAny_call_entry slot_dict_setitem hT entry_dict_setitem ?_ (args_dict_setitem _ _ _)))
    show wpAny _ _ (Builtin.Dict.notOrdered "__setitem__" ⟨[.ref a,iv,u],[]⟩ >>= _) _ _ s
    refine wpAny_bind (wpAny_notOrdered_dict hT ?_)
    show wpAny _ _ (dictSet a iv u >>= _) _ _ s
    refine wpAny_bind (pb I (by rw[in1_units];omega) hH eP sz en nd hk.1 r2 ri r3 rv λtk h' aW e1 e2 e3 e0 e4 e5=>wpAny_pure ⟨.none,rfl,wpAny_pure ?_⟩)
    exact⟨_,me I hH e4 e5,p _ ι (Ext.put ha hH) (mf G0 ha mX hH e1 e2 sy e0 (by omega))⟩
  . cases q
 |ref n =>
  refine set_list pins s σ H o i v ov iv u Q I ro ri rv ?_
  simp only[gV,putD]at q
  cases d2 with
  |int k =>
    simp only[Rel]at r1 r2
    obtain⟨a,rfl,ha⟩:=r1
    subst r2
    dsimp only at q
    cases hx:g[n]? with
    |none=>rw[hx]at q;cases q
    |some xs =>
     rw[hx]at q
     dsimp only at q
     cases hj:jH xs.length k with
     |none=>rw[hj]at q;cases q
     |some j =>
      rw[hj]at q
      cases q
      obtain⟨vs,hv,hr⟩:=G0.at hx ha
      exact⟨a,vs,k,j,rfl,rfl,hv,by rw[<- hr.length];exact hj,p _ ι (Ext.put ha hv) (G0.put ha hv (ae.set r3 j hr))⟩
  |_=>cases q
 |_=>cases q
noncomputable def cS (fo fi:FE):FG:=λv σ g=>(fo σ g).bind λr=>(fi σ r.2).bind λq=>(gV r.1 q.1 v q.2).map λg'=>(σ,g')
theorem vf {o i:Expr}{fo fi:FE}{pos:Pos}(hu:X.A.units+64<cLine)(ho:DE X o fo)(hi:DE X i fi)
  (ha:∀v,assign (.Subscript o i pos) X.env v=(do
   let ov <- holding [v] (eval o X.env)
   let iv <- holding [v,ov] (eval i X.env)
   standAt pos
   holding [v,ov,iv] (setItem ov iv v)
   release [v,ov,iv] []):=by intro _;rfl):DG X (.Subscript o i pos) (cS fo fi):=.of (PG.imp (F8 ho.un hi.un (ET hu) ha) λv σ H Q h=>by
 obtain⟨ι,σd,g,d,bB,g',G0,S0,r,h,p⟩:=h
 obtain⟨⟨d1,g1⟩,h1,h⟩:=bind_some h
 obtain⟨⟨d2,g2⟩,h2,h⟩:=bind_some h
 refine tD.bind G0 S0 h1 λH1 ι1 v1 e1 G1 S1 r1=>?_
 refine tD.bind G1 S1 h2 λH2 ι2 v2 e2 G2 S2 r2=>?_
 obtain⟨g3,h3,h⟩:=Option.map_eq_some_iff.mp h
 cases h
 exact⟨ι2,g2,d1,d2,d,g',G2,Rel.ext e2 _ r1,r2,Rel.ext (e1.trans e2) _ r,h3,λH' ι' e' G'=>p H' ι' σ ((e1.trans e2).trans e') G' (S2.ext e')⟩)
end
inductive Mp (K:KW)(eQ:D->Bool)(m:D->List D->G->Option (D×G))(x:V)(xs:List V)(H:Hp)(Q:VK):Prop
 |mk (ι:Ix) (g:G) (d:D) (ds:List D) (d':D) (g':G) (h0:ak K H ι g) (h1:Rel K H ι d x) (h2:ae K H ι ds xs) (h3:eQ d=true) (h4:m d ds g=some (d',g')) (h5:eF K H ι d' g' Q):Mp K eQ m x xs H Q
structure MR (X:Cx)(T:String)(name:Str)(id:String)(eQ:D->Bool)(m:D->List D->G->Option (D×G)):Prop where
 pa:PlainAttrs T
 slot:Slot T name id
 ty:typeOf (.builtin id)=pure (.type "method_descriptor")
 is:∀{pins:List (Addr×Obj)} {σ:L2.St} {H:Hp} {s:Shared} {ι:Ix} {g:G} {d:D} {x:V} {v:Value},Inv X pins σ H s->ak X.kw H ι g->Rel X.kw H ι d x->RelV x v->eQ d=true->s.TypeIs v T /\ ∀a,v = .ref a->∃ob,s.heap.get? a=some ob/\ob.dict=none
 run:B8 X id (Mp X.kw eQ m)
noncomputable def dn (eQ:D->Bool)(m:D->List D->G->Option (D×G))(fo:FE)(fr:FA):FE:=λσ g=>(fo σ g).bind λr=>if eQ r.1=true then(fr σ r.2).bind λq=>m r.1 q.1 q.2 else none
section
variable {X:Cx}{T:String}{name:Str}{id:String}{eQ:D->Bool}{m:D->List D->G->Option (D×G)}{o e:Expr}{es:List Expr}{fo:FE}{fr:FA}{apos bL:Pos}
theorem IC (R:MR X T name id eQ m)(ho:DE X o fo)(ha:DA X (e::es) fr)(jf:attributeBase o name X.env (eval o X.env)=eval o X.env:=by rfl)
   (qK:((backTo bL (starEach (e::es) X.env)).all (λx=>!x.1)&&(backToKw bL (keywordEach [] X.env)).all (λx=>x.1.isSome)
    && decide ((e::es).length+([]:List Keyword).length+(if([]:List Keyword).isEmpty then 0 else 1)<30))=true:=by rfl)
   (jg:(apos.endLine == bL.line)=true:=by rfl) (hs:starEach (e::es) X.env=(false,eval e X.env)::starEach es X.env:=by rfl) (qL:(backTo bL (starEach es X.env)).any (·.1)=false:=by rfl):
   DE X (.Call (.Attribute o name apos) (e::es) [] bL) (dn eQ m fo fr):=.of (by
 intro pins s σ H Q I h
 obtain⟨ι,σd,g,d,g',G0,S0,h,p⟩:=h
 obtain⟨⟨d1,g1⟩,h1,h⟩:=bind_some h
 dsimp only at h
 split at h
 . rename_i hT
   obtain⟨⟨ds,g2⟩,h2,h⟩:=bind_some h
   refine wpAny_Call_method_late jf qK jg rfl (aT (ho.un pins s σ H (λx H1=>∃ι1,Ext H ι H1 ι1/\ak X.kw H1 ι1 g1/\bf X.kw H1 ι1 σd σ/\Rel X.kw H1 ι1 d1 x) I (tD.bind G0 S0 h1 λH1 ι1 v e1 G1 S1 r1=>⟨ι1,e1,G1,S1,r1⟩)) λv s1 ⟨x,H1,I1,rx,ι1,e1,G1,S1,r1⟩=>?_)
   obtain⟨t1,t2⟩:=R.is I1 G1 r1 rx hT
   refine⟨T,id,R.pa,R.slot,R.ty,t1,t2,?_⟩
   have hA:=ha.un bL pins s1 σ H1 _ I1 (gi.bind G1 S1 h2 λH2 ι2 vs e2 G2 S2 r2=>(⟨ι2,e2,G2,r2⟩:(λ(vs:List V) (H2:Hp)=>∃ι2,Ext H1 ι1 H2 ι2/\ak X.kw H2 ι2 g2/\ae X.kw H2 ι2 ds vs) vs H2))
   rw[hs]at hA ⊢
   refine Calls.callWith_builtin (by show(false||(backTo bL (starEach es X.env)).any (·.1))=false;rw[qL]<;>rfl) (Calls.evalArgs_plain ?_)
   refine aT hA λus s2 ⟨vs,H2,I2,r2,ι2,e2,G2,rs⟩=>?_
   exact R.run pins s2 σ H2 x vs v us Q I2 rx r2 ⟨ι2,g2,d1,ds,d,g',G2,Rel.ext e2 _ r1,rs,hT,h,p.mono (e1.trans e2)⟩
 . cases h)
theorem EU (R:MR X T name id eQ m)(ho:DE X o fo)(jf:attributeBase o name X.env (eval o X.env)=eval o X.env:=by rfl)(jg:(apos.endLine == bL.line)=true:=by rfl):
   DE X (.Call (.Attribute o name apos) [] [] bL) (dn eQ m fo af):=.of (by
 intro pins s σ H Q I h
 obtain⟨ι,σd,g,d,g',G0,S0,h,p⟩:=h
 obtain⟨⟨d1,g1⟩,h1,h⟩:=bind_some h
 dsimp only at h
 split at h
 . rename_i hT
   obtain⟨⟨ds,g2⟩,h2,h⟩:=bind_some h
   cases h2
   refine wpAny_Call_method0_late jf jg (aT (ho.un pins s σ H (λx H1=>∃ι1,Ext H ι H1 ι1/\ak X.kw H1 ι1 g1/\bf X.kw H1 ι1 σd σ/\Rel X.kw H1 ι1 d1 x) I (tD.bind G0 S0 h1 λH1 ι1 v e1 G1 S1 r1=>⟨ι1,e1,G1,S1,r1⟩)) λv s1 ⟨x,H1,I1,rx,ι1,e1,G1,S1,r1⟩=>?_)
   obtain⟨t1,t2⟩:=R.is I1 G1 r1 rx hT
   refine⟨T,id,R.pa,R.slot,R.ty,t1,t2,Calls.callWith_builtin rfl (PySem.evalArgs_none ?_)⟩
   exact R.run pins s1 σ H1 x [] v [] Q I1 rx .nil ⟨ι1,g1,d1,[],d,g',G1,r1,by simp[ae],hT,h,p.mono e1⟩
 . cases h)
end
noncomputable def fJ:D->Bool
 |.aI _=>true
 |_=>false
theorem sf {X:Cx}{pins:List (Addr×Obj)}{σ:L2.St}{H:Hp}{s:Shared}{ι:Ix}{g:G}{d:D}{x:V}{v:Value}(I:Inv X pins σ H s)(G0:ak X.kw H ι g)(r:Rel X.kw H ι d x)(rv:RelV x v)(h:fJ d=true):
  s.TypeIs v "dict" /\ ∀a,v = .ref a->∃ob,s.heap.get? a=some ob/\ob.dict=none:=by
 cases d with
 |aI n =>
  simp only[Rel]at r
  obtain⟨a,rfl,ha⟩:=r
  cases rv
  have hi:n<g.length:=by rw[<- G0.len];exact(List.getElem?_eq_some_iff.mp ha.1).1
  obtain⟨es,vs,c,hH,_⟩:=G0.iJ (List.getElem?_eq_getElem hi) ha
  obtain⟨ep,ho⟩:=p_ I hH
  refine⟨⟨_,ho,rfl⟩,λb e=>?_⟩
  cases e
  exact⟨_,ho,rfl⟩
 |_=>cases h
theorem vals1 {x:V}{us:List Value}(r:Vals [x] us):∃u,us = [u]/\RelV x u:=by
 cases r with
 |cons a b=>cases b;exact⟨_,rfl,a⟩
noncomputable def jy:FE:=λ_ g=>some (.aI g.length,g ++ [[]])
section
variable {X:Cx}
theorem EV {pos:Pos}:DE X (.Dict [] [] pos) jy:=.of (by
 intro pins s σ H Q I h
 obtain⟨ι,σd,g,d,g',G0,S0,h,p⟩:=h
 cases h
 have hf:H s.heap.objs.size=none:=I.aV.fresh (Nat.le_refl _)
 have hg:∀h:Heap,(h.push { cls:=.type "dict",data:=.dict #[] }).get? h.objs.size=some { cls:=.type "dict",data:=.dict #[] }:=λh=>Heap.get?_push_size _ rfl
 refine wpAny_Dict_empty ⟨.ref s.heap.objs.size,upd H s.heap.objs.size (dO s.heap.objs.size [] 0),I.laid (t':=s.toks) (λb u e=>Heap.get?_push_of_some _ e) (Nat.le_refl _) ?_,rfl,p _ _ _ (Ext.fG (b:=1) hf) (G0.fG hf (.d 0 [] [] (Nat.zero_le _) .nil .nil (by simp[aJ]) (beq_eq_false_iff_ne.mpr (Ne.symm (Nat.ne_of_lt (big I)))) (Nat.zero_le _)) (by simp[ae])) ?_⟩
 . exact⟨hg _,⟨_,hg _⟩,λh1 h2 q k=>k _ q⟩
 . simp only[Rel]
   exact⟨_,rfl,cj.new G0.len⟩)
end
end L3
namespace L3
open PySem PySem.Spec PyProof.Rows L2
end L3
namespace L3
open PySem PySem.Spec PyProof.Rows L2 SeqAt DK
noncomputable def putAll (n:Nat):List (D×D)->G->Option G
 | [],g=>some g
 |p::r,g=>(gV (.aI n) p.1 p.2 g).bind λg'=>putAll n r g'
end L3
namespace DK
open PySem PySem.Spec PyProof.Rows L2 L3
section
variable {prog:Program}{w:World}{A:Around}{E:Value->Shared->Prop}{s:Shared}{it d:Addr}{i n ep:Nat}{es:Array DictEntry}{Q:Option Value->Shared->Prop}
theorem next_end (hh:A.handled=none)(hit:s.heap.IsKeyIter it d i n ep)(ho:s.heap.get? d=some { cls:=.type "dict",data:=.dict es ep })(hn:es.size=n)(he:es.size<=i)
  (hQ:∀h',Heap.ExtBut it s.heap h'->Q none { s with heap:=h' }):wpAny (model prog w) A (pyNext (.ref it)) Q E s:=by
 subst hn
 obtain⟨o,h1,h2,h3⟩:=id hit
 have T:=hit.typeIs
 have own:Builtin.Dict_items.ownsTuple "dict_keyiterator" = false:=by decide
 have Rb:A.in1.handled=none:=hh
 have ge:es[i]? = none:=Array.getElem?_eq_none he
 unfold pyNext
 refine wpAny_bind (wpAny_attempt (wpAny_callSpecial?_slot (name:=Str.ofString "__next__") T F.slot_dict_keyiterator_next (wpAny_call_entry F.slot_dict_keyiterator_next T F.entry_dict_keyiterator_next ?_ (F.args_dict_keyiterator_next_1 _))))
 unfold Builtin.«dict_keyiterator.__next__»
 wp_walk using (wpAny_typeNameOfWhole_keyiter T),(wpAny_fieldsOf h1 h3),(wpAny_dictEntries ho rfl),(wpAny_dictEpoch ho rfl)
 have ni:¬((i:Int)<0):=by omega
 simp only[ni,if_false,Int.toNat_natCast,ge]
 wp_walk using (wpAny_typeNameOfWhole_keyiter T),(wpAny_setField h1 h3 (by simp[own]))
 unfold raiseNew
 refine wpAny_bind (wpAny_handled ?_)
 rw[Rb]
 refine wpAny_bind (wpAny_pure (wpAny_throw (wpAny_bind (wpAny_isInstance (T:="StopIteration") (b:=true) (v:=.ref _) (by exact⟨_,Heap.get?_push_size _ rfl,rfl⟩) isSubtype_stop ?_))))
 exact wpAny_pure (hQ _ (((Heap.SameBut.update ..).extBut.push _).push _))
theorem next_item {e:DictEntry}(hit:s.heap.IsKeyIter it d i n ep)(ho:s.heap.get? d=some { cls:=.type "dict",data:=.dict es ep })(hn:es.size=n)(he:es[i]? = some e)
  (hQ:∀h',h'.IsKeyIter it d (i+1) n ep->Heap.SameBut it s.heap h'->Q (some e.key) { s with heap:=h' }):wpAny (model prog w) A (pyNext (.ref it)) Q E s:=by
 subst hn
 obtain⟨o,h1,h2,h3⟩:=id hit
 have T:=hit.typeIs
 have ni:¬((i:Int)<0):=by omega
 have n_:(s.heap.update it (Obj.mapFields (·.setIfInBounds 1 (rawInt ((i:Int)+1))))).IsKeyIter it d (i+1) es.size ep :=
  ⟨_,Heap.get?_update_self _ h1 (Obj.isFreed_of_fields (Obj.data_mapFields h3 _)),(Obj.cls_mapFields ..).trans h2,by rw[Obj.data_mapFields h3];simp[rawInt]⟩
 unfold pyNext
 refine wpAny_bind (wpAny_attempt (wpAny_callSpecial?_slot (name:=Str.ofString "__next__") T F.slot_dict_keyiterator_next (wpAny_call_entry F.slot_dict_keyiterator_next T F.entry_dict_keyiterator_next ?_ (F.args_dict_keyiterator_next_1 _))))
 unfold Builtin.«dict_keyiterator.__next__»
 wp_walk using (wpAny_typeNameOfWhole_keyiter T),(wpAny_fieldsOf h1 h3),(wpAny_dictEntries ho rfl),(wpAny_dictEpoch ho rfl)
 simp only[ni,if_false,Int.toNat_natCast,he]
 have own:Builtin.Dict_items.ownsTuple "dict_keyiterator" = false:=by decide
 refine wpAny_bind (wpAny_bind (wpAny_typeNameOfWhole_keyiter T (wpAny_pure (wpAny_bind (wpAny_isOneOf_keyiter T ?_)))))
 rw[own]
 refine wpAny_bind (wpAny_setField h1 h3 (by simp) ?_)
 have T':Shared.TypeIs { s with heap:=s.heap.update it (Obj.mapFields (·.setIfInBounds 1 (rawInt ((i:Int)+1)))) } (.ref it) "dict_keyiterator":=n_.typeIs
 refine wpAny_bind (wpAny_holding (wpAny_bind (wpAny_isOneOf_keyiter T' (wpAny_pure (wpAny_pure ⟨_,rfl,wpAny_pure (hQ _ n_ (Heap.SameBut.update ..))⟩)))))
theorem Bm {Q:Value->Shared->Prop}(hd:(d == sysModules)=false)(ho:s.heap.get? d=some { cls:=.type "dict",data:=.dict es ep })
  (hQ:Q (.ref s.heap.objs.size) { s with heap:=s.heap.push { cls:=.type "dict_keyiterator",data:=.fields #[.ref d,.int 0 0,.int es.size 0,.int ep 0] } }):wpAny (model prog w) A (pyIter (.ref d)) Q E s:=by
 have T:s.TypeIs (.ref d) "dict":=⟨_,ho,rfl⟩
 refine wpAny_pyIter_slot T F.slot_dict_iter (wpAny_call_entry F.slot_dict_iter T F.entry_dict_iter ?_ (F.args_dict_iter_1 _))
 unfold Builtin.«dict.__iter__» Builtin.Dict.dictSlotNone Builtin.Dict.showsAll
 wp_walk using (wpAny_notOrdered_dict T),(wpAny_dictEntries ho rfl),(wpAny_dictEpoch ho rfl)
 exact⟨_,rfl,"dict_keyiterator",_,⟨_,Heap.get?_push_size _ rfl,rfl⟩,F.slot_dict_keyiterator_next.lookup,by simpa[rawInt]using hQ⟩
end
end DK
namespace L3
open PySem PySem.Spec PyProof.Rows L2 SeqAt DK
end L3
namespace L3
open PySem PySem.Spec PyProof.Rows L2
end L3
namespace RI
open PySem PySem.Spec PyProof.Rows L2 L3
structure G0 where
 T:Nat->Fn
 k:Nat
 fns:List (Str×Nat×Nat)
 gk:List Str
 si:List (Str×D)
 sj:List (Str×List (Str×D))
structure Cs where
 N:List Str
 sc:Scope
 all:Bool
 mt:List Str
 own:List Str
inductive yY (m:G0)(X:Cx)(x:Str)(i n:Nat):Prop
 |mk (f:Addr) (fd:FuncData) (ps:List Str) (ok:cC X.prog X.w X.K X.mg X.base gh m.k f fd ps (j6 X.kw n (m.T i))) (hm:X.mg x=some (.ref f)) (kp:PySem.W.keepIn X.K (.ref f)=true) (b:Binds X.K fd ps []) (ln:∀ds g r,m.T i ds g=some r->ds.length=n):yY m X x i n
structure Gd (m:G0)(c:Cs)(X:Cx):Prop where
 hN:X.N=c.N
 hs:X.env.scope=c.sc
 nd:c.N.Nodup
 xe:X.xe=λ_ _=>False
 cm:X.calm=true
 rm:b9 m.k X.A
 al:c.all=true->∀x,X.fn x=true
 ow:∀x∈c.own,X.fn x=true
 fn:∀x i n,(x,i,n)∈m.fns->yY m X x i n
 bl:∀x∈m.gk,X.mg x=none
 cn:∀x d,(x,d)∈m.si->∃v u,X.mg x=some u/\RelV v u /\ ∀K H ι,Rel K H ι d v
 dc:∀x t,(x,t)∈m.sj->∃a,X.mg x=some (.ref a)/\bU X.w X.kw a t
noncomputable def kf:FT:=λ_ _=>none
noncomputable def mZ:FA:=λ_ _=>none
noncomputable def cJ:FS:=λ_ _=>none
noncomputable def sr:FI:=λ_ _=>none
noncomputable def m7:FG:=λ_ _ _=>none
section
variable {X:Cx}
theorem oa {e:Expr}:DT X e kf:=.of (λpins s σ H Q I h=>by obtain⟨_,_,_,_,_,_,_,h,_⟩:=h;cases h)
theorem oe {es:List Expr}:DA X es mZ:=.of (λ_ pins s σ H Q I h=>by obtain⟨_,_,_,_,_,_,_,h,_⟩:=h;cases h)
theorem cq {e:Stmt}:DS X e cJ:=.of (λpins s σ H Q I h=>by obtain⟨_,_,_,_,_,_,_,_,h,_⟩:=h;cases h)
theorem vg {tg e:Expr}:DI X tg e sr:=.of (λpins s σ H Q I h=>by obtain⟨_,_,_,_,_,_,_,h,_⟩:=h;cases h)
theorem fu {e:Expr}:DG X e m7:=.of (λpins s σ H v u Q I r h=>by obtain⟨_,_,_,_,_,_,_,_,_,h,_⟩:=h;cases h)
end
noncomputable def isStar:Expr->Bool
 |.Starred ..=>true
 |_=>false
noncomputable def isSet:Expr->Bool
 |.Set ..=>true
 |_=>false
noncomputable def m8:Expr->Bool
 |.Slice ..=>true
 |_=>false
noncomputable def m9:Expr->Bool
 |.ListComp ..=>true
 |.SetComp ..=>true
 |.DictComp ..=>true
 |_=>false
noncomputable def Li:Expr->Bool
 |.List ..=>true
 |_=>false
noncomputable def m_:Expr->Bool
 |.Tuple ..=>true
 |_=>false
noncomputable def vh:Expr->Bool
 |.Call (.Name _ _) [] [] _=>true
 |_=>false
noncomputable def su:Expr->Bool
 |.UnaryOp .Not _ _=>false
 |.BoolOp ..=>false
 |.IfExp ..=>false
 |.Compare ..=>false
 |_=>true
noncomputable def Lj:Expr->Bool
 |.Name ..=>true
 |.Subscript ..=>true
 |.Constant ..=>true
 |_=>false
theorem bq {e:Expr}{es:List Expr}{env:Env}(h:isStar e=false):starEach (e::es) env=(false,eval e env)::starEach es env:=by
 cases e<;>first|rfl|cases h
theorem marks {op:CmpOp}{e:Expr}(h:isSet e=false):behindInMarks op e=false:=by
 cases e<;>first|rfl|cases h
theorem plainT {e:Expr}{env:Env}(h:su e=true):∀whole,isTrue e env whole=(do let v <- whole;standAt e.pos;holding [v] (truthy v)):=by
 intro whole
 cases e with
 |UnaryOp op a p=>cases op<;>first|rfl|cases h
 |_=>first|rfl|cases h
theorem og {e:Expr}(h:m8 e=false):iG e:=by
 intro o i
 cases e<;>first|rfl|cases h
theorem baseOk {e:Expr}{x:Str}{env:Env}(h:vh e=false):attributeBase e x env (eval e env)=eval e env:=by
 unfold attributeBase
 split
 . cases h
 . rfl
theorem sv {e:Expr}{t:Option Expr}{l:Nat}{env:Env}(h:m9 e=false):swapsWith e t l env=pure false:=by
 cases e<;>first|rfl|cases h
theorem qb {e:Expr}{env:Env}(h:isSet e=false):∀x,foldedSetIterable e env x=pure x:=by
 intro x
 cases e<;>first|rfl|cases h
theorem kL {es:List Expr}{env:Env}{pos:Pos}(h:es.any isStar=false):(backTo pos (starEach es env)).any (·.1)=false:=by
 induction es with
 |nil=>rfl
 |cons e es ih =>
  rw[List.any_cons,Bool.or_eq_false_iff]at h
  rw[bq h.1]
  show(false||(backTo pos (starEach es env)).any (·.1))=false
  rw[ih h.2];rfl
theorem sA {es:List Expr}{env:Env}{pos:Pos}(h:es.any isStar=false):(backTo pos (starEach es env)).all (λx=>!x.1)=true:=by
 induction es with
 |nil=>rfl
 |cons e es ih =>
  rw[List.any_cons,Bool.or_eq_false_iff]at h
  rw[bq h.1]
  show(true&&(backTo pos (starEach es env)).all (λx=>!x.1))=true
  rw[ih h.2];rfl
noncomputable def jz:List Str->Str->Option Nat
 | [],_=>none
 |y::N,x=>if y == x then some 0 else(jz N x).map (· + 1)
theorem fv:∀{N:List Str} {x:Str} {i:Nat},jz N x=some i->N[i]? = some x
 | [],_,_,h=>by cases h
 |y::N,x,i,h=>by
  unfold jz at h
  split at h
  . rename_i e
    cases h
    simp[eq_of_beq e]
  . obtain⟨j,hj,rfl⟩:=Option.map_eq_some_iff.mp h
    simpa using fv hj
theorem lookup_mem {α:Type}:∀{l:List (Str×α)} {x:Str} {a:α},l.lookup x=some a->(x,a)∈l
 | [],_,_,h=>by cases h
 | (y,b)::l,x,a,h=>by
  rw[List.lookup_cons]at h
  split at h
  . rename_i e
    cases h
    rw[eq_of_beq e];exact List.mem_cons_self
  . exact List.mem_cons_of_mem _ (lookup_mem h)
noncomputable def iT (x:Str):Bool:=x == ("__debug__":Str)||x == ("__classdict__":Str)||x == ("__name__":Str)
theorem sC {x:Str}(h:iT x=false):(x == ("__debug__":Str))=false/\(x == ("__classdict__":Str))=false/\x ≠ "__name__":=by
 simp only[iT,Bool.or_eq_false_iff]at h
 exact⟨h.1.1,h.1.2,λe=>by have:=h.2;rw[e]at this;simp at this⟩
structure fK where
 nm:Str
 fn:Fn
 ok:∀{X:Cx} {k:Nat},b9 k X.A->X.calm=true->(∃id,bS X (.builtin id) (h_ X.kw fn)/\bootBuiltins nm=some (.builtin id))\/(∃T,bS X (.type T) (h_ X.kw fn)/\bootBuiltins nm=some (.type T))
structure nc where
 nm:Str
 eQ:D->Bool
 m:D->List D->G->Option (D×G)
 ok:∀{X:Cx} {k:Nat},b9 k X.A->∃T id,MR X T nm id eQ m
noncomputable def aE (E:Expr->FE):List Expr->FA
 | []=>af
 |e::es=>if isStar e then mZ else aa (E e) (aE E es)
structure CJ where
 nm:Str
 tup:Bool
 f:(Expr->FE)->List Expr->FI
 ok:∀{X:Cx} {k:Nat} {E:Expr->FE} {tg:Expr} {as:List Expr} {p pos:Pos},b9 k X.A->X.calm=true->X.mg nm=none->Gl X nm->(∀e,DE X e (E e))->as.any isStar=false->(tup=true->m_ tg=true)->DI X tg (.Call (.Name nm p) as [] pos) (f E as)
structure jA where
 e:G0->Cs->(Expr->FE)->Bool->Expr->Option FE
 sD:∀{m:G0} {c:Cs} {X:Cx} {E:Expr->FE},Gd m c X->(∀e,DE X e (E e))->∀{rf x f},e m c E rf x=some f->DE X x f
 t:G0->Cs->(Expr->FE)->Expr->Option FT
 tok:∀{m:G0} {c:Cs} {X:Cx} {E:Expr->FE},Gd m c X->(∀e,DE X e (E e))->∀{x f},t m c E x=some f->DT X x f
structure Pk where
 bl:List fK
 br:List fK
 mt:List nc
 it:List CJ
 xr:List jA
noncomputable def yZ:Const->FE
 |.int i=>fC (.int i)
 |.str x=>fC (.str x)
 |.bool b=>fC (.bl b)
 |.none=>fC .ao
 |_=>bz
noncomputable def CK:Option NameKind->Bool
 |some .local=>true
 |some .cell=>true
 |some .free=>true
 |_=>false
noncomputable def eName (m:G0)(c:Cs)(x:Str):FE :=
 if iT x then bz else
 match CK (c.sc.names.lookup x),jz c.N x with
 |true,some i=>ab i
 |true,none=>bz
 |false,_=>if c.sc.names.lookup x=some .globalImplicit then(match m.si.lookup x with|some d=>fC d|none=>match m.fns.lookup x with|some _=>fC (.fn x)|none=>bz)else bz
noncomputable def ID (op:Operator)(rf ls:Bool)(fa fb:FE):FE:=match op with
 |.Add=>ai aO fa fb
 |.Sub=>ai (bQ pW (· - ·)) fa fb
 |.Mult=>ai b6 fa fb
 |.FloorDiv=>ai (bQ dw (· / ·)) fa fb
 |.Mod=>ai (bQ bT (· % ·)) fa fb
 |.Pow=>ai (bQ jm (λi j=>i ^ j.toNat)) fa fb
 |_=>bz
noncomputable def Mq (op:UnaryOp)(fa:FE):FE:=match op with
 |.USub=>j5 eW fa
 |_=>bz
noncomputable def bE (E:Expr->FE)(g:Bool)(op:BoolOp):List Expr->FE
 | []=>bz
 | [a]=>E a
 |a::b::r=>match op with
  |.And=>wg (E a) (bE E g .And (b::r))
  |.Or=>AS (E a) (bE E g .Or (b::r))
noncomputable def Mr:CmpOp->D->D->G->Option (D×G)
 |.Lt=>oLt
 |.LtE=>oLe
 |.Gt=>rQ
 |.GtE=>yF
 |.Eq=>oEq
 |.NotEq=>iA
 |.Is=>CA
 |.IsNot=>pY
 |.In=>md
 |.NotIn=>n8
noncomputable def oh (E:Expr->FE)(l:Expr):List CmpOp->List Expr->FE
 | [op],[b]=>if isSet b then bz else ai (Mr op) (E l) (E b)
 |_,_=>bz
noncomputable def pE (E:Expr->FE):Option Expr->FO
 |none=>A8
 |some e=>wD (E e)
noncomputable def Bn (E:Expr->FE)(v:Expr):Expr->FE
 |.Slice lo hi none _=>Bi (E v) (pE E lo) (pE E hi)
 |.Slice lo hi (some st) _=>bz
 |s=>ai aD (E v) (E s)
noncomputable def wQ (m:G0)(P:Pk)(c:Cs)(rf:Bool)(E:Expr->FE)(f:Expr)(as:List Expr)(pos:Pos):FE:=match f with
 |.Name x _=>if iT x||as.any isStar then bz else if c.sc.names.lookup x=some .globalImplicit then
   (match m.fns.lookup x with
   |some (i,_)=>ag (m.T i) (aE E as)
   |none=>if as.isEmpty || !(m.gk.elem x)then bz else match(if rf then P.br else P.bl).find? (λr=>r.nm == x)with
    |some r=>ag r.fn (aE E as)
    |none=>bz)
  else bz
 |.Attribute o x ap=>if vh o||as.any isStar || !(ap.endLine == pos.line) || !(decide (as.length<29))then bz else match P.mt.find? (λr=>r.nm == x)with
  |some r=>dn r.eQ r.m (E o) (aE E as)
  |none=>bz
 |_=>bz
section
variable {m:G0}{c:Cs}{X:Cx}{E:Expr->FE}
theorem Gd.hu (g:Gd m c X):X.A.units+64<cLine:=g.rm.units
theorem Gd.gl (g:Gd m c X){x:Str}(h:c.sc.names.lookup x=some .globalImplicit):Gl X x:=by
 show X.env.scope.names.lookup x=_
 rw[g.hs];exact h
theorem fL (hE:∀e,DE X e (E e)):∀es:List Expr,DA X es (aE E es)
 | []=>yp
 |e::es=>by
  unfold aE
  split
  . exact oe
  . rename_i h
    exact nT (hE e) (fL hE es) (bq (by simpa using h))
theorem y6 {v:Const}{j:Nat}{p:Pos}:DE X (.Constant v j p) (yZ v):=by
 cases v with
 |int i=>exact Hj
 |str x=>exact Hk
 |bool b=>exact KN
 |none=>exact Hl
 |_=>exact bg
theorem Bo (g:Gd m c X){x:Str}{p:Pos}:DE X (.Name x p) (eName m c x):=by
 unfold eName
 split
 . exact bg
 rename_i ho
 obtain⟨o1,o2,_⟩:=sC (by simpa using ho)
 split
 . rename_i i hv hi
   refine Hm i (by rw[g.hN];exact fv hi) ?_ o1 o2
   rw[g.hs]
   unfold CK at hv
   split at hv
   . rename_i e;exact .inl e
   . rename_i e;exact .inr (.inl e)
   . rename_i e;exact .inr (.inr e)
   . cases hv
 . exact bg
 . split
   . rename_i hg
     split
     . rename_i d hd
       obtain⟨v,u,h1,h2,h3⟩:=g.cn x d (lookup_mem hd)
       exact Ea (g.gl hg) h1 h2 h3 o1
     . split
       . rename_i y hy
         obtain⟨i,n⟩:=y
         obtain⟨f,fd,ps,_,hm,_⟩:=g.fn x i n (lookup_mem hy)
         exact .of (PE.imp (d5 (v:=.ref f) (g.gl hg) hm rfl o1) λσ H Q h=>by
          obtain⟨ι,σd,g1,d,g',G0,S0,h,p⟩:=h
          cases h
          exact p H ι _ Ext.refl G0 (by simp only[Rel];exact⟨f,rfl,hm⟩))
       . exact bg
   . exact bg
theorem EW {op:Operator}{rf ls:Bool}{a b:Expr}{p:Pos}{fa fb:FE}(ha:DE X a fa)(hb:DE X b fb):DE X (.BinOp a op b p) (ID op rf ls fa fb):=by
 cases op<;>first|exact bg|skip
 . exact kD Ic ha hb
 . exact kD HL ha hb
 . exact kD Ib ha hb
 . exact kD HM ha hb
 . exact kD HN ha hb
 . exact kD Ep ha hb
theorem IE {op:UnaryOp}{a:Expr}{p:Pos}{fa:FE}(ha:DE X a fa):DE X (.UnaryOp op a p) (Mq op fa):=by
 cases op with
 |USub=>exact KO HP ha
 |_=>exact bg
theorem CL (hE:∀e,DE X e (E e)){gf:Bool}{op:BoolOp}{p:Pos}:∀es:List Expr,DE X (.BoolOp op es p) (bE E gf op es)
 | []=>bg
 | [a]=>Hu (hE a)
 |a::b::r=>by
  have ih:=CL hE (gf:=gf) (op:=op) (p:=p) (b::r)
  cases op<;>cases gf
  . exact yo (hE a) ih
  . exact yo (hE a) ih
  . exact Cg (hE a) ih
  . exact Cg (hE a) ih
theorem y7 (hu:X.A.units+64<cLine):∀op:CmpOp,aX X (compareOp op) (ck X.kw (Mr op))
 |.Lt=>KZ
 |.LtE=>K0
 |.Gt=>K1
 |.GtE=>K4
 |.Eq=>K8 hu
 |.NotEq=>Iq hu
 |.Is=>Lb
 |.IsNot=>EH
 |.In=>IB hu
 |.NotIn=>yX hu
theorem EX (hu:X.A.units+64<cLine)(hE:∀e,DE X e (E e)){l:Expr}{ops:List CmpOp}{rs:List Expr}{p:Pos}:DE X (.Compare l ops rs p) (oh E l ops rs):=by
 unfold oh
 split
 . split
   . exact bg
   . rename_i h
     exact yk (y7 hu _) (hE _) (hE _) (marks (by simpa using h))
 . exact bg
theorem EY (hu:X.A.units+64<cLine)(hE:∀e,DE X e (E e)){l:Expr}{ops:List CmpOp}{rs:List Expr}{p:Pos}:DT X (.Compare l ops rs p) (ay (oh E l ops rs)):=by
 have none_:DT X (.Compare l ops rs p) (ay bz):=.of (λpins s σ H Q I h=>by obtain⟨_,_,_,_,_,_,_,h,_⟩:=h;cases h)
 unfold oh
 split
 . split
   . exact none_
   . rename_i h
     exact ym (y7 hu _) (hE _) (hE _) (marks (by simpa using h))
 . exact none_
theorem CM (hE:∀e,DE X e (E e)):∀o:Option Expr,DO X o (pE E o)
 |none=>Ey
 |some e=>Ez (hE e)
theorem EZ (hu:X.A.units+64<cLine)(hE:∀e,DE X e (E e)){v s:Expr}{p:Pos}:DE X (.Subscript v s p) (Bn E v s):=by
 unfold Bn
 split
 . exact yP (hE _) (CM hE _) (CM hE _)
 . exact bg
 . rename_i h1 h2
   refine IA hu (hE _) (hE _) (og ?_)
   cases s with
   |Slice lo hi st q =>
    cases st with
    |none=>exact absurd rfl (h1 _ _ _)
    |some e=>exact absurd rfl (h2 _ _ _ _)
   |_=>rfl
theorem Bp (P:Pk){rf:Bool}(g:Gd m c X)(hE:∀e,DE X e (E e)){f:Expr}{as:List Expr}{pos:Pos}:DE X (.Call f as [] pos) (wQ m P c rf E f as pos):=by
 unfold wQ
 split
 . rename_i x p
   split
   . exact bg
   rename_i h
   simp only[Bool.or_eq_true,not_or,Bool.not_eq_true]at h
   obtain⟨o1,o2,o3⟩:=sC h.1
   have cA:=h.2
   split
   . rename_i hg
     split
     . rename_i i n hf
       obtain⟨fa,fd,ps,ok,hm,kp,b,ln⟩:=g.fn x i n (lookup_mem hf)
       cases as with
       |nil=>exact A0 ok g.rm hm kp b ln (g.gl hg) o1
       |cons e es =>
         rw[List.any_cons,Bool.or_eq_false_iff]at cA
         exact Ek ok g.rm hm kp b ln (fL hE _) (g.gl hg) o1 (bq cA.1) (kL cA.2)
     . split
       . exact bg
       rename_i hb
       simp only[Bool.or_eq_true,not_or,Bool.not_eq_true,Bool.not_eq_false',Bool.not_eq_true']at hb
       split
       . rename_i r hr
         have hn:r.nm=x:=by have:=List.find?_some hr;exact eq_of_beq this
         have hx:x∈m.gk:=List.elem_iff.mp (by simpa using hb.2)
         cases as with
         |nil=>simp at hb
         |cons e es =>
          rw[List.any_cons,Bool.or_eq_false_iff]at cA
          rcases r.ok g.rm g.cm with⟨id,h1,h2⟩|⟨T,h1,h2⟩
          . rw[hn]at h2
            exact A1 h1 (g.bl x hx) h2 (fL hE _) (g.gl hg) o3 o1 (bq cA.1) (kL cA.2)
          . rw[hn]at h2
            exact yv h1 (g.bl x hx) h2 (fL hE _) (g.gl hg) o3 o1 (bq cA.1) (kL cA.2)
       . exact bg
   . exact bg
 . rename_i o x ap
   split
   . exact bg
   rename_i h
   simp only[Bool.or_eq_true,not_or,Bool.not_eq_true,Bool.not_eq_true',Bool.not_eq_false',decide_eq_false_iff_not,Classical.not_not]at h
   obtain⟨⟨⟨h1,h2⟩,h3⟩,h4⟩:=h
   split
   . rename_i r hr
     have hn:r.nm=x:=by have:=List.find?_some hr;exact eq_of_beq this
     obtain⟨T,id,R⟩:=r.ok g.rm
     rw[hn]at R
     cases as with
     |nil=>exact EU R (hE o) (baseOk h1) (by simpa using h3)
     |cons e es =>
       rw[List.any_cons,Bool.or_eq_false_iff]at h2
       refine IC R (hE o) (fL hE _) (baseOk h1) ?_ (by simpa using h3) (bq h2.1) (kL h2.2)
       rw[sA (by rw[List.any_cons,h2.1,h2.2];rfl)]
       have h5:decide ((e::es).length+([]:List Keyword).length+(if([]:List Keyword).isEmpty then 0 else 1)<30)=true:=by simp at h4 ⊢;omega
       rw[h5];rfl
   . exact bg
 . exact bg
end
noncomputable def sE (c:Cs)(x:Str):Option Nat:=match c.sc.names.lookup x with
 |some .local=>jz c.N x
 |some .cell=>if c.all||c.own.elem x then jz c.N x else none
 |_=>none
noncomputable def Bq (f:Expr->FG):List Expr->lE
 | []=>wk
 |e::es=>qX (f e) (Bq f es)
noncomputable def iU (c:Cs)(E:Expr->FE):Nat->Expr->FG
 |_,.Name x _=>match sE c x with|some i=>gN i|none=>m7
 |_,.Subscript o i _=>if m8 i then m7 else cS (E o) (E i)
 |n+1,.Tuple es _ _=>if es.any isStar then m7 else gT es.length (Bq (iU c E n) es)
 |_,_=>m7
section
variable {m:G0}{c:Cs}{X:Cx}{E:Expr->FE}
theorem kM (g:Gd m c X){x:Str}{i:Nat}(h:sE c x=some i):X.N[i]? = some x/\Loc X.env.scope x/\(X.fn x=true\/X.env.scope.names.lookup x=some .local):=by
 unfold sE at h
 rw[g.hN,g.hs]
 split at h
 . rename_i e;exact⟨fv h,.inl e,.inr e⟩
 . rename_i e
   split at h
   . rename_i ha
     rw[Bool.or_eq_true]at ha
     exact⟨fv h,.inr e,.inl (ha.elim (λha=>g.al ha x) λha=>g.ow x (List.elem_iff.mp ha))⟩
   . cases h
 . cases h
theorem Gd.vm (g:Gd m c X):X.N.Nodup:=by rw[g.hN];exact g.nd
theorem mh {e:Expr}{es:List Expr}{env:Env}(h:isStar e=false):assignEach (e::es) env=(false,assign e env)::assignEach es env:=by
 cases e<;>first|rfl|cases h
theorem vn {es:List Expr}{env:Env}(h:es.any isStar=false):(assignEach es env).length=es.length/\(assignEach es env).findIdx? (·.1)=none:=by
 induction es with
 |nil=>exact⟨rfl,rfl⟩
 |cons e es ih =>
  rw[List.any_cons,Bool.or_eq_false_iff]at h
  obtain⟨a,b⟩:=ih h.2
  rw[mh h.1]
  exact⟨by simp[a],by rw[List.findIdx?_cons,b];rfl⟩
theorem vo {o i:Expr}{pos:Pos}{env:Env}(h:m8 i=false):∀v,assign (.Subscript o i pos) env v=(do
  let ov <- holding [v] (eval o env)
  let iv <- holding [v,ov] (eval i env)
  standAt pos
  holding [v,ov,iv] (setItem ov iv v)
  release [v,ov,iv] []):=by
 intro v
 cases i<;>first|rfl|cases h
theorem kg (g:Gd m c X)(hE:∀e,DE X e (E e)):∀(n:Nat) (e:Expr),DG X e (iU c E n e):=by
 intro n
 induction n with
 |zero =>
  intro e
  unfold iU
  split
  . split
    . rename_i i h;obtain⟨a,b,d⟩:=kM g h;exact uU g.vm a b d
    . exact fu
  . split
    . exact fu
    . rename_i h;exact vf g.hu (hE _) (hE _) (vo (by simpa using h))
  . rename_i h;cases h
  . exact fu
 |succ n ih =>
  intro e
  unfold iU
  split
  . split
    . rename_i i h;obtain⟨a,b,d⟩:=kM g h;exact uU g.vm a b d
    . exact fu
  . split
    . exact fu
    . rename_i h;exact vf g.hu (hE _) (hE _) (vo (by simpa using h))
  . rename_i n' es kt tp hn
    cases hn
    split
    . exact fu
    . rename_i hs
      have hs:es.any isStar=false:=by simpa using hs
      have hg:∀es:List Expr,es.any isStar=false->yr X es (Bq (iU c E n) es):=λes=>by
       induction es with
       |nil=>exact λ_=>Eh
       |cons e es Hf =>
        intro h
        rw[List.any_cons,Bool.or_eq_false_iff]at h
        exact AZ (ih e) (Hf h.2) (by rw[mh h.1];rfl)
      have hg:=hg es hs
      exact HC g.cm hg (vn hs).1 (vn hs).2
  . exact fu
end
noncomputable def y8 (m:G0)(P:Pk)(c:Cs)(E:Expr->FE)(tg:Expr)(it:Expr):FI:=match it with
 |.Call (.Name x _) as [] _=>if c.sc.names.lookup x=some .globalImplicit then(match P.it.find? (λr=>r.nm == x)with
  |some r=>if m.gk.elem x && !(as.any isStar)&&(!r.tup||m_ tg)then r.f E as else sr
  |none=>eX (E it))else eX (E it)
 |it=>eX (E it)
theorem sF {m:G0}{c:Cs}{X:Cx}{E:Expr->FE}(P:Pk)(g:Gd m c X)(hE:∀e,DE X e (E e)){tg it:Expr}:DI X tg it (y8 m P c E tg it):=by
 unfold y8
 split
 . rename_i x p as pos
   split
   . rename_i hg
     split
     . rename_i r hr
       have hn:r.nm=x:=by have:=List.find?_some hr;exact eq_of_beq this
       split
       . rename_i h
         simp only[Bool.and_eq_true,Bool.or_eq_true,Bool.not_eq_true',beq_iff_eq]at h
         obtain⟨⟨h1,h2⟩,h4⟩:=h
         have hx:x∈m.gk:=List.elem_iff.mp h1
         subst hn
         exact r.ok g.rm g.cm (g.bl _ hx) (g.gl hg) hE h2 (λz=>by rcases h4 with h4|h4;(rw[z]at h4;cases h4);exact h4)
       . exact vg
     . exact rR (hE _)
   . exact rR (hE _)
 . exact rR (hE _)
noncomputable def IF (sc:Scope)(S:Scope):Scope:={ sc with names:=sc.names.map λ(n,k)=>if(k == .free&&S.kind == .function&&S.names.lookup n == some .cell)then(n,.cell)else(n,k) }
noncomputable def vp:List Str->Bool
 | []=>true
 |x::r=>!(r.elem x)&&vp r
theorem sG:∀{l:List Str},vp l=true->l.Nodup
 | [],_=>List.nodup_nil
 |x::r,h=>by
  simp only[vp,Bool.and_eq_true,Bool.not_eq_true']at h
  exact List.nodup_cons.mpr (And.intro (λz=>(by rw[List.elem_iff.mpr z]at h;exact absurd h.1 (by simp))) (sG h.2))
noncomputable def iC (sc:Scope):List Str:=(sc.names.filter λy=>y.2 == .local||y.2 == .cell).map (·.1)
noncomputable def Lk (sc:Scope):List Str:=(sc.names.filter λy=>y.2 == .cell).map (·.1)
noncomputable def fM (sc:Scope):List Str:=(sc.names.filter λy=>y.2 == .free).map (·.1)
noncomputable def dq (c:Cs)(sc:Scope):Cs:=⟨iC sc++fM sc,IF sc c.sc,false,c.mt,Lk sc⟩
noncomputable def sH (c:Cs)(sc:Scope):List (Option Nat):=(iC sc).map (λ_=>none)++(fM sc).map (λx=>jz c.N x)
noncomputable def wR (c:Cs)(sc:Scope):Bool:=nY c.sc c.N (iC sc++fM sc) (sH c sc) sc&&vp (iC sc++fM sc)
noncomputable def y9 (T:Expr->FT):List Expr->FT
 | []=>bw
 | [t]=>T t
 |_=>kf
noncomputable def y_ (c:Cs):Expr->Bool
 |.Name x _=>c.mt.elem x
 |_=>false
noncomputable def qc (m:G0)(P:Pk)(c:Cs)(rf:Bool)(E:Cs->Expr->FE)(T:Cs->Expr->FT)(elt:Expr)(gs:List Comprehension)(sc:Scope):FE:=match gs with
 | [⟨tg,it,ifs,0⟩]=>if wR c sc && !(isSet it)then
  (if y_ c it then ke bA (Bj (E c it)) (sH c sc) (iU (dq c sc) (E (dq c sc)) 3 tg) (y9 (T (dq c sc)) ifs) (E (dq c sc) elt)
  else bp bA (y8 m P c (E c) tg it) (sH c sc) (iU (dq c sc) (E (dq c sc)) 3 tg) (y9 (T (dq c sc)) ifs) (E (dq c sc) elt))else bz
 |_=>bz
section
variable {m:G0}{c:Cs}{X:Cx}
theorem Gd.comp (g:Gd m c X){sc:Scope}(h:vp (iC sc++fM sc)=true){C:Addr}{s3:Shared}{H:Hp}{fp:List Addr}{pins:List (Addr×Obj)}:Gd m (dq c sc) (bj X (iC sc++fM sc) sc C s3 H fp pins) where
 hN:=rfl
 hs:=by
  show relabel sc X.env=IF sc c.sc
  rw[<- g.hs];rfl
 nd:=sG h
 xe:=rfl
 cm:=g.cm
 rm:=g.rm
 al:=λz=>by cases z
 ow:=λx hx=>by
  show(sc.names.any λy=>y.1 == x&&y.2 == .cell)=true
  obtain⟨y,hy,e⟩:=List.mem_map.mp (show x∈(sc.names.filter λy=>y.2 == .cell).map (·.1) from hx)
  rw[List.mem_filter]at hy
  rw[List.any_eq_true]
  exact⟨y,hy.1,by rw[e,hy.2];simp⟩
 fn:=λx i n hm=>by
  obtain⟨f,fd,ps,a,b,d,e,l⟩:=g.fn x i n hm
  exact⟨f,fd,ps,a,b,d,e,l⟩
 bl:=g.bl
 cn:=g.cn
 dc:=g.dc
theorem IG {T:Expr->FT}(hT:∀e,DT X e (T e)):∀ifs:List Expr,gM X ifs (y9 T ifs)
 | []=>A3
 | [t]=>A4 (hT t)
 |_::_::_=>.of (λpins s σ H Q I h=>by obtain⟨_,_,_,_,_,_,_,h,_⟩:=h;cases h)
theorem vq (g:Gd m c X){E:Cs->Expr->FE}{T:Cs->Expr->FT}(hE:∀c X,Gd m c X->∀e,DE X e (E c e))(hT:∀c X,Gd m c X->∀e,DT X e (T c e)){sc:Scope}(h:wR c sc=true){tg elt:Expr}{ifs:List Expr}:
  eH X (iC sc++fM sc) (sH c sc) sc /\ ∀C s3 H fp pins,DG (bj X (iC sc++fM sc) sc C s3 H fp pins) tg (iU (dq c sc) (E (dq c sc)) 3 tg) /\
   gM (bj X (iC sc++fM sc) sc C s3 H fp pins) ifs (y9 (T (dq c sc)) ifs)/\DE (bj X (iC sc++fM sc) sc C s3 H fp pins) elt (E (dq c sc) elt):=by
 simp only[wR,Bool.and_eq_true]at h
 refine⟨yG g.hs g.hN h.1,λC s3 H fp pins=>?_⟩
 have g':=g.comp h.2 (C:=C) (s3:=s3) (H:=H) (fp:=fp) (pins:=pins)
 exact⟨kg g' (hE _ _ g') 3 tg,IG (hT _ _ g') ifs,hE _ _ g' elt⟩
theorem sI (P:Pk)(g:Gd m c X){rf:Bool}{E:Cs->Expr->FE}{T:Cs->Expr->FT}(hE:∀c X,Gd m c X->∀e,DE X e (E c e))(hT:∀c X,Gd m c X->∀e,DT X e (T c e)){elt:Expr}{gs:List Comprehension}{sc:Scope}{p:Pos}:
   DE X (.ListComp elt gs sc p) (qc m P c rf E T elt gs sc):=by
 unfold qc
 split
 . rename_i tg it ifs
   split
   . rename_i h
     simp only[Bool.and_eq_true,Bool.not_eq_true']at h
     obtain⟨ok,de⟩:=vq g hE hT h.1 (tg:=tg) (elt:=elt) (ifs:=ifs)
     split
     . exact Bl g.xe g.cm ok (EO (hE c X g it)) de (qb h.2)
     . exact El g.xe g.cm ok (sF P g (hE c X g)) de (qb h.2)
   . exact bg
 . exact bg
end
noncomputable def tB (T:Expr->FT)(op:BoolOp):List Expr->FT
 | []=>kf
 | [a]=>T a
 |a::b::r=>match op with
  |.And=>cU (T a) (tB T .And (b::r))
  |.Or=>yn (T a) (tB T .Or (b::r))
noncomputable def xE (P:Pk)(m:G0)(c:Cs)(E:Expr->FE)(rf:Bool)(e:Expr):Option FE:=P.xr.findSome? λr=>r.e m c E rf e
noncomputable def xT (P:Pk)(m:G0)(c:Cs)(E:Expr->FE)(e:Expr):Option FT:=P.xr.findSome? λr=>r.t m c E e
noncomputable def CN (m:G0)(P:Pk)(E:Cs->Bool->Expr->FE)(T:Cs->Expr->FT)(c:Cs)(rf:Bool):Expr->FE
 |.Constant v _ _=>yZ v
 |.Name x _=>eName m c x
 |.BinOp a op b _=>ID op rf (Li a) (E c false a) (E c false b)
 |.UnaryOp op a _=>Mq op (E c false a)
 |.BoolOp op vs _=>bE (E c false) (vs.dropLast.any Lj) op vs
 |.IfExp t a b _=>AU (T c t) (E c rf a) (E c rf b)
 |.Compare l ops rs _=>oh (E c false) l ops rs
 |.Tuple es _ _=>aA aq (aE (E c false) es)
 |.List es _=>aA (if rf then mkRef else cH) (aE (E c false) es)
 |.Dict [] [] _=>if rf then jy else fC .bF
 |.Subscript v s _=>Bn (E c false) v s
 |.Call f as [] pos=>wQ m P c rf (E c false) f as pos
 |.ListComp elt gs sc _=>qc m P c rf (λc e=>E c false e) T elt gs sc
 |_=>bz
noncomputable def CO (m:G0)(P:Pk)(E:Cs->Bool->Expr->FE)(T:Cs->Expr->FT)(c:Cs):Expr->FT
 |.Compare l ops rs _=>ay (oh (E c false) l ops rs)
 |.UnaryOp .Not a _=>qW (T c a)
 |.BoolOp op vs _=>tB (T c) op vs
 |e=>if su e then qV (E c false e)else kf
noncomputable def wU (m:G0)(P:Pk)(E:Cs->Bool->Expr->FE)(T:Cs->Expr->FT)(c:Cs)(rf:Bool)(e:Expr):FE:=match xE P m c (E c false) rf e with
 |some f=>f
 |none=>CN m P E T c rf e
noncomputable def stepT (m:G0)(P:Pk)(E:Cs->Bool->Expr->FE)(T:Cs->Expr->FT)(c:Cs)(e:Expr):FT:=match xT P m c (E c false) e with
 |some f=>f
 |none=>CO m P E T c e
noncomputable def iv (m:G0)(P:Pk):Nat->(Cs->Bool->Expr->FE)×(Cs->Expr->FT)
 | 0=>(λ_ _ _=>bz,λ_ _=>kf)
 |n+1=>(wU m P (iv m P n).1 (iv m P n).2,stepT m P (iv m P n).1 (iv m P n).2)
section
variable {m:G0}{X:Cx}
theorem gW {α β:Type}{f:α->Option β}:∀{l:List α} {b:β},l.findSome? f=some b->∃a∈l,f a=some b
 | [],_,h=>by cases h
 |a::l,b,h=>by
  rw[List.findSome?_cons]at h
  cases ha:f a with
  |none=>rw[ha]at h;obtain⟨x,hx,e⟩:=gW h;exact⟨x,List.mem_cons_of_mem _ hx,e⟩
  |some c=>rw[ha]at h;cases h;exact⟨a,List.mem_cons_self,ha⟩
theorem Ll {T:Expr->FT}(hT:∀e,DT X e (T e)){op:BoolOp}{p:Pos}:∀es:List Expr,DT X (.BoolOp op es p) (tB T op es):=by
 have w:∀es:List Expr,es ≠ []->DW X (.BoolOp op es p) (tB T op es):=λes=>by
  induction es with
  |nil=>intro h;exact absurd rfl h
  |cons a r ih =>
   intro _
   cases r with
   |nil=>cases op;exact Ec (hT a);exact Hr (hT a)
   |cons b r =>
    have:=ih (by simp)
    cases op
    . exact Hs (hT a) this
    . exact KP (hT a) this
 intro es
 cases es with
 |nil=>exact oa
 |cons a r=>exact(w (a::r) (by simp)).dt
theorem CP (m:G0)(P:Pk):∀n:Nat,(∀c X,Gd m c X->∀rf e,DE X e ((iv m P n).1 c rf e))/\(∀c X,Gd m c X->∀e,DT X e ((iv m P n).2 c e))
 | 0=>⟨λ_ _ _ _ _=>bg,λ_ _ _ _=>oa⟩
 |n+1=>by
  obtain⟨hE,hT⟩:=CP m P n
  refine⟨λc X g rf e=>?_,λc X g e=>?_⟩
  . show DE X e (wU m P (iv m P n).1 (iv m P n).2 c rf e)
    unfold wU
    split
    . rename_i f hf
      obtain⟨r,_,h⟩:=gW hf
      exact r.sD g (hE c X g false) h
    have lK:=hE c X g false
    unfold CN
    split
    . exact y6
    . exact Bo g
    . exact EW (lK _) (lK _)
    . exact IE (lK _)
    . exact CL lK _
    . exact Hv (hT c X g _) (hE c X g rf _) (hE c X g rf _)
    . exact EX g.hu lK
    . exact yq (fL lK _)
    . cases rf
      . exact Hw (fL lK _)
      . exact Hx (fL lK _)
    . cases rf
      . exact A9
      . exact EV
    . exact EZ g.hu lK
    . exact Bp P g lK
    . exact sI P g (λc X g e=>hE c X g false e) hT
    . exact bg
  . show DT X e (stepT m P (iv m P n).1 (iv m P n).2 c e)
    unfold stepT
    split
    . rename_i f hf
      obtain⟨r,_,h⟩:=gW hf
      exact r.tok g (hE c X g false) h
    unfold CO
    split
    . exact EY g.hu (hE c X g false)
    . exact Ht (hT c X g _)
    . exact Ll (hT c X g) _
    . split
      . rename_i h;exact Hq (hE c X g false _) (plainT h)
      . exact oa
end
noncomputable def CQ (f:Stmt->FS):List Stmt->FS
 | []=>aF
 | [s]=>f s
 |s::t::r=>aj (f s) (CQ f (t::r))
noncomputable def wV (S:Scope):Bool:=(if S.kind.isAnnotationScope then ScopeKind.function else S.kind)== .function
noncomputable def wW (S:Scope)(x:Str)(px p:Pos)(sc:Scope):Bool:=wV S&&S.names.lookup x == some .local&&px.line == p.line && !(sc.names.any λ(n,k)=>n == x&&(k == .local||k == .cell))
noncomputable def IH (mt:List Str):Expr->Bool
 |.Name x _=>mt.elem x
 |_=>false
noncomputable def aZ (E:Bool->Expr->FE)(mt:List Str):List Expr->List Expr->FA
 |_,[]=>af
 | [],v::vs=>if isStar v then mZ else aa (E false v) (aZ E mt [] vs)
 |t::ts,v::vs=>if isStar v then mZ else aa (E (IH mt t) v) (aZ E mt ts vs)
noncomputable def CS (m:G0)(P:Pk)(c:Cs)(rf:Bool)(E:Cs->Expr->FE)(T:Cs->Expr->FT)(elt:Expr)(gs:List Comprehension)(sc:Scope):FE:=match gs with
 | [⟨tg,it,ifs,0⟩]=>if wR c sc && !(isSet it)then
  (bp bA (y8 m P c (E c) tg it) (sH c sc) (iU (dq c sc) (E (dq c sc)) 3 tg) (y9 (T (dq c sc)) ifs) (E (dq c sc) elt))else bz
 |_=>bz
noncomputable def ng (S:Scope)(ts:List Expr):List Str:=ts.filterMap fun
 |.Name id pos=>if S.names.lookup id == some .local&&pos.line == (ts.head?.map (·.pos.line)).getD 0 then some id else none
 |_=>none
noncomputable def II (S:Scope)(ts vs:List Expr):Option Bool :=
 if !(ts.length == 2||ts.length == 3)||vs.length != ts.length || !(wV S)then some false
 else if(ng S ts).length != ts.length||(ng S ts).eraseDups.length != (ng S ts).length then some false
 else if vs.all (foldedForSure 8)then some false
 else if vs.all (constantsAlone 8)then none
 else some true
noncomputable def sJ (c:Cs)(x:Str):Bool:=c.sc.names.lookup x == some .local
noncomputable def Br (m:G0)(P:Pk)(E:Cs->Bool->Expr->FE)(T:Cs->Expr->FT)(c:Cs)(tg v:Expr):FS:=match tg,v with
 |.Name x px,.ListComp elt gs sc p=>(match sE c x with
  |some i=>ax (if wW c.sc x px p sc then CS m P c (c.mt.elem x) (λc e=>E c false e) T elt gs sc else qc m P c (c.mt.elem x) (λc e=>E c false e) T elt gs sc) (gN i)
  |none=>cJ)
 |.Name x px,v=>(match sE c x with
  |some i=>if m9 v then cJ else ax (E c (c.mt.elem x) v) (gN i)
  |none=>cJ)
 |.Tuple ts kt pt,.Tuple vs _ _=>if vs.any isStar then cJ else(match II c.sc ts vs with
  |some false=>ax (aA aq (aZ (E c) c.mt ts vs)) (iU c (E c false) 3 (.Tuple ts kt pt))
  |some true=>(match ts,vs with
   | [.Name x _,.Name y _],[a,b]=>(match jz c.N x,jz c.N y with|some i,some j=>if ng c.sc ts == [x,y]&&sJ c x&&sJ c y && !(i == j)then rW i j (aZ (E c) c.mt ts [a,b])else cJ|_,_=>cJ)
   |_,_=>cJ)
  |none=>cJ)
 |.Subscript o i q,v=>ax (E c false v) (iU c (E c false) 3 (.Subscript o i q))
 |tg,v=>if m9 v||m_ v||isStar tg then cJ else ax (E c false v) (iU c (E c false) 3 tg)
noncomputable def Bs (m:G0)(P:Pk)(W:Nat)(kp:Bool)(E:Cs->Bool->Expr->FE)(T:Cs->Expr->FT)(B:List Stmt->FS)(c:Cs):Stmt->FS
 |.Return (some e) _=>aH (E c kp e)
 |.If t a b _=>a_ (T c t) (B a) (B b)
 |.Assign [tg] v _=>Br m P E T c tg v
 |.For tg it body [] _=>if isSet it then cJ else cK (y8 m P c (E c false) tg it) (iU c (E c false) 3 tg) (B body)
 |.Pass _=>aF
 |.Expr (.Constant (.str _) _ _) _=>aF
 |.Expr e _=>if m9 e then cJ else cL (E c false e)
 |_=>cJ
noncomputable def sS (m:G0)(P:Pk)(W:Nat)(kp:Bool)(E:Cs->Bool->Expr->FE)(T:Cs->Expr->FT)(c:Cs):Nat->Stmt->FS
 | 0,_=>cJ
 |n+1,s=>Bs m P W kp E T (CQ (sS m P W kp E T c n)) c s
noncomputable def body (m:G0)(P:Pk)(W:Nat)(kp:Bool)(c:Cs)(lD:List Stmt):FS:=CQ (sS m P W kp (iv m P 30).1 (iv m P 30).2 c 12) lD
section
variable {m:G0}{c:Cs}{X:Cx}
theorem sL {f:Stmt->FS}(h:∀s,DS X s (f s)):∀lD:List Stmt,jN X lD (CQ f lD)
 | []=>Ed
 | [s]=>Ee (h s)
 |s::t::r=>AY (h s) (sL h (t::r))
theorem qd {E:Bool->Expr->FE}{mt:List Str}(hE:∀rf e,DE X e (E rf e)):∀(ts vs:List Expr),DA X vs (aZ E mt ts vs)
 |_,[]=>by cases ‹List Expr›<;>exact yp
 | [],v::vs=>by
  unfold aZ
  split
  . exact oe
  . rename_i h;exact nT (hE _ v) (qd hE [] vs) (bq (by simpa using h))
 |t::ts,v::vs=>by
  unfold aZ
  split
  . exact oe
  . rename_i h;exact nT (hE _ v) (qd hE ts vs) (bq (by simpa using h))
theorem vt (g:Gd m c X){elt:Expr}{gs:List Comprehension}{sc:Scope}{p px:Pos}{x:Str}{l:Nat}:swapsWith (.ListComp elt gs sc p) (some (.Name x px)) l X.env=pure (wW c.sc x px p sc):=by
 rw[<- g.hs];rfl
theorem Ms {ts vs:List Expr}{kt k2:Nat}{pt jV:Pos}{r:Bool}(g:Gd m c X)(hv:vs.any isStar=false)(h:II c.sc ts vs=some r):swappedStores [.Tuple ts kt pt] (.Tuple vs k2 jV) X.env=pure (if r then some (ng c.sc ts)else none):=by
 have cA:(vs.any fun|.Starred ..=>true|_=>false)=false:=by
   have:(λ(e:Expr)=>match e with|.Starred ..=>true|_=>false)=isStar:=by funext e;cases e<;>rfl
   rw[this];exact hv
 have Rc:(X.env.blockKind != ScopeKind.function)= !(wV c.sc):=by rw[<- g.hs];rfl
 unfold II at h
 show(if(!(ts.length == 2||ts.length == 3)||vs.length != ts.length||X.env.blockKind != ScopeKind.function)=true then pure none else if(vs.any fun|.Starred ..=>true|_=>false)=true then pure none else
   if((ng X.env.scope ts).length != ts.length||(ng X.env.scope ts).eraseDups.length != (ng X.env.scope ts).length)=true then pure none else if vs.all (foldedForSure 8)=true then pure none else if vs.all (constantsAlone 8)=true then _ else pure (some (ng X.env.scope ts)))=_
 rw[Rc,cA,g.hs]
 split at h
 . rename_i h1;cases h;rw[if_pos h1];rfl
 rename_i h1
 rw[if_neg h1,if_neg (by simp)]
 split at h
 . rename_i h2;cases h;rw[if_pos h2];rfl
 rename_i h2
 rw[if_neg h2]
 split at h
 . rename_i h3;cases h;rw[if_pos h3];rfl
 rename_i h3
 rw[if_neg h3]
 split at h
 . cases h
 rename_i h4
 cases h
 rw[if_neg h4];rfl
theorem N9 {tg v:Expr}{env:Env}(h:m_ v=false):swappedStores [tg] v env=pure none:=by
 cases tg with
 |Tuple es kt p=>cases v<;>first|rfl|cases h
 |List es p=>cases v<;>first|rfl|cases h
 |_=>rfl
theorem vw {tg:Expr}{env:Env}(h:isStar tg=false):(assignEach [tg] env).map (·.2)= [assign tg env]:=by
 rw[mh h];rfl
theorem Bt {o i v:Expr}{q:Pos}{l:Nat}{env:Env}:swapsWithSole [.Subscript o i q] v l env=pure false:=by cases v<;>rfl
theorem IJ {o i v:Expr}{q:Pos}{env:Env}:swappedStores [.Subscript o i q] v env=pure none:=by cases v<;>rfl
theorem E2 (P:Pk)(g:Gd m c X){E:Cs->Bool->Expr->FE}{T:Cs->Expr->FT}(hE:∀c X,Gd m c X->∀rf e,DE X e (E c rf e))(hT:∀c X,Gd m c X->∀e,DT X e (T c e)){tg v:Expr}{p:Pos}:DS X (.Assign [tg] v p) (Br m P E T c tg v):=by
 have Mt:∀{x:Str},sJ c x=true->X.env.scope.names.lookup x=some .local:=fun {x} h=>by
   rw[g.hs];exact eq_of_beq h
 unfold Br
 split
 . rename_i x px elt gs sc q
   split
   . rename_i i hi
     obtain⟨a,b,d⟩:=kM g hi
     split
     . rename_i rH
       unfold CS
       split
       . rename_i tg it ifs
         split
         . rename_i h
           simp only[Bool.and_eq_true,Bool.not_eq_true']at h
           obtain⟨ok,de⟩:=vq g (λc X g e=>hE c X g false e) hT h.1 (tg:=tg) (elt:=elt) (ifs:=ifs)
           have hs:=(vt g (elt:=elt) (gs:=[⟨tg,it,ifs,0⟩]) (sc:=sc) (p:=q) (px:=px) (x:=x) (l:=p.line)).trans (by rw[rH])
           exact wx g.xe g.cm ok (sF P g (hE c X g false)) de g.vm a b hs (qb h.2) d
         . exact .of (λpins s σ H Q I h=>by obtain⟨_,_,_,_,_,_,_,_,h,_⟩:=h;cases h)
       . exact .of (λpins s σ H Q I h=>by obtain⟨_,_,_,_,_,_,_,_,h,_⟩:=h;cases h)
     . rename_i rH
       exact yt g.vm a b (sI P g (λc X g e=>hE c X g false e) hT) ((vt g).trans (by rw[show wW c.sc x px q sc=false by simpa using rH])) d
   . exact cq
 . rename_i x px _
   split
   . rename_i i hi
     obtain⟨a,b,d⟩:=kM g hi
     split
     . exact cq
     . rename_i h
       exact yt g.vm a b (hE c X g _ _) (sv (by simpa using h)) d
   . exact cq
 . rename_i ts kt pt vs k2 jV
   split
   . exact cq
   rename_i hv
   have hv:vs.any isStar=false:=by simpa using hv
   have IK:∀l,swapsWithSole [.Tuple ts kt pt] (.Tuple vs k2 jV) l X.env=pure false:=λ_=>rfl
   split
   . rename_i hp
     exact qY (yq (qd (hE c X g) ts vs)) (kg g (hE c X g false) 3 _) (IK _) (Ms g hv hp) rfl
   . rename_i hp
     split
     . rename_i x px y py a b
       split
       . rename_i i j hi hj
         split
         . rename_i h
           simp only[Bool.and_eq_true,Bool.not_eq_true',beq_iff_eq]at h
           obtain⟨⟨⟨h1,h2⟩,h3⟩,h4⟩:=h
           exact Io g.cm g.vm (by rw[g.hN];exact fv hi) (by rw[g.hN];exact fv hj) (by simpa using h4) (Mt h2) (Mt h3) (qd (hE c X g) _ _) ((Ms g hv hp).trans (by rw[if_pos rfl,h1])) (IK _)
         . exact cq
       . exact cq
     . exact cq
   . exact cq
 . exact qY (hE c X g false _) (kg g (hE c X g false) 3 _) Bt IJ (vw rfl)
 . split
   . exact cq
   rename_i h
   simp only[Bool.or_eq_true,not_or,Bool.not_eq_true]at h
   exact qY (hE c X g false _) (kg g (hE c X g false) 3 _) (sv h.1.1) (N9 h.1.2) (vw h.2)
theorem E3 (P:Pk){W:Nat}{kp:Bool}(g:Gd m c X){E:Cs->Bool->Expr->FE}{T:Cs->Expr->FT}(hE:∀c X,Gd m c X->∀rf e,DE X e (E c rf e))(hT:∀c X,Gd m c X->∀e,DT X e (T c e)){B:List Stmt->FS}(hB:∀b,jN X b (B b))(s:Stmt):
   DS X s (Bs m P W kp E T B c s):=by
 have nv:PassesOwn (model X.prog X.w) X.A X.env X.xe:=by rw[g.xe];exact PassesOwn.never
 unfold Bs
 split
 . exact Hy (hE c X g _ _)
 . exact KQ (hT c X g _) (hB _) (hB _)
 . exact E2 P g hE hT
 . split
   . exact cq
   . rename_i h
     exact HK nv g.cm (sF P g (hE c X g false)) (kg g (hE c X g false) 3 _) (hB _) (qb (by simpa using h))
 . exact Ef
 . exact Hz
 . split
   . exact cq
   . rename_i h;exact Eg (hE c X g false _) (sv (by simpa using h))
 . exact cq
theorem E4 (P:Pk){W:Nat}{kp:Bool}(g:Gd m c X)(lD:List Stmt):jN X lD (body m P W kp c lD):=by
 obtain⟨hE,hT⟩:=CP m P 30
 have:∀n s,DS X s (sS m P W kp (iv m P 30).1 (iv m P 30).2 c n s):=λn=>by
  induction n with
  |zero=>exact λ_=>cq
  |succ n ih=>exact λs=>E3 P g hE hT (sL ih) s
 exact sL (this 12) lD
end
structure bo where
 nm:Str
 ps:List Str
 N:List Str
 st:Stmt
 kp:Bool
 mt:List Str
 pu:Bool
structure Mo where
 ds:List bo
 gk:List Str
 si:List (Str×D)
 sj:List (Str×List (Str×D))
 P:Pk
 W:Nat
noncomputable def qf:Nat->List bo->List (Str×Nat×Nat)
 |_,[]=>[]
 |j,d::ds=>(d.nm,j,d.ps.length)::qf (j+1) ds
noncomputable def Mo.g (M:Mo)(T:Nat->Fn)(k:Nat):G0:=⟨T,k,qf 0 M.ds,M.gk,M.si,M.sj⟩
noncomputable def wX (pu:Bool)(f:Fn):Fn:=if pu then j_ f else f
noncomputable def bo.run (M:Mo)(d:bo)(T:Nat->Fn)(k:Nat):Fn:=wX d.pu (av d.kp d.N.length d.ps.length (body (M.g T k) M.P M.W d.kp ⟨d.N,aS d.st,true,d.mt,[]⟩ (c5 d.st)))
theorem pe:∀{ds:List bo} {j:Nat} {x:Str} {i n:Nat},(x,i,n)∈qf j ds->∃d q,i=j+q/\ds[q]? = some d/\d.nm=x/\d.ps.length=n
 | [],_,_,_,_,h=>by simp[qf]at h
 |d::ds,j,x,i,n,h=>by
  rcases List.mem_cons.mp h with h|h
  . cases h;exact⟨d,0,rfl,rfl,rfl,rfl⟩
  . obtain⟨e,q,h1,h2,h3,h4⟩:=pe h
    exact⟨e,q+1,by omega,by simpa using h2,h3,h4⟩
structure Good (M:Mo)(T:Nat->Nat->Fn):Prop where
 z:∀j ds g,T 0 j ds g=none
 s:∀k j d,M.ds[j]? = some d->T (k+1) j=d.run M (T k) k
 sc:∀d∈M.ds,gu d.N d.ps (aS d.st)
structure x5 (M:Mo)(K:KW)(f:Nat->Addr)(fd:Nat->FuncData):Prop where
 fn:∀j d,M.ds[j]? = some d->uC K.fr d.nm d.nm d.st (f j) (fd j)/\K.mg d.nm=some (.ref (f j))/\Binds K.fr (fd j) d.ps []
 bl:∀x∈M.gk,K.mg x=none
 cn:∀x d,(x,d)∈M.si->∃v u,K.mg x=some u/\RelV v u /\ ∀K H ι,Rel K H ι d v
 dc:∀x t,(x,t)∈M.sj->∃a,K.mg x=some (.ref a)/\bU K.w K a t
section
variable {M:Mo}{T:Nat->Nat->Fn}{K:KW}{f:Nat->Addr}{fd:Nat->FuncData}{P:Program}{base:Heap}
theorem Good.len (G:Good M T){k j:Nat}{d:bo}(h:M.ds[j]? = some d):∀ds g r,T k j ds g=some r->ds.length=d.ps.length:=λds g r q=>by
 cases k with
 |zero=>rw[G.z]at q;cases q
 |succ k =>
  rw[G.s k j d h]at q
  unfold bo.run wX at q
  split at q
  . exact wG (λ_ _ _=>oW _ _ _) ds g r q
  . exact oW ds g r q
theorem za (G:Good M T)(A:x5 M K f fd):∀k j d,M.ds[j]? = some d->cC P K.w K.fr K.mg base gh k (f j) (fd j) d.ps (j6 K d.ps.length (T k j))
 | 0,j,d,h=>Ej λds g=>G.z j ds g
 |k+1,j,d,h=>by
  have ih:=za G A k
  obtain⟨F,hm,hb⟩:=A.fn j d h
  have S:=G.sc d (List.mem_of_getElem? h)
  have hJ:d.ps.length<=d.N.length:=by have:=congrArg List.length S.pre;rw[List.length_take]at this;omega
  have main:cC P K.w K.fr K.mg base gh (k+1) (f j) (fd j) d.ps (j6 K d.ps.length (av d.kp d.N.length d.ps.length (body (M.g (T k) k) M.P M.W d.kp ⟨d.N,aS d.st,true,d.mt,[]⟩ (c5 d.st)))):=by
    refine KU F S hJ λcP A' outer s H E hr=>?_
    have gd:Gd (M.g (T k) k) ⟨d.N,aS d.st,true,d.mt,[]⟩ (jY gh P K.w K.fr K.mg base d.N d.nm (aS d.st) (f j) cP A' outer s H E).uu:=⟨rfl,rfl,S.nd,rfl,rfl,hr,λ_ _=>rfl,(λ_ h=>nomatch h),λx i n hx=>?_,A.bl,A.cn,A.dc⟩
    . exact E4 M.P gd _
    obtain⟨e,q,h1,h2,h3,h4⟩:=pe hx
    have h1:i=q:=by omega
    subst h1 h3 h4
    obtain⟨F',hW,eD⟩:=A.fn i e h2
    exact⟨f i,fd i,e.ps,ih i e h2,hW,F'.kp,eD,G.len h2⟩
  rw[G.s k j d h]
  unfold bo.run wX
  split
  . exact EI main
  . exact main
end
noncomputable def wY (K:PySem.W.Frag):Sp:=λvs H Q _=>∃(a:Addr) (ns:List Int),vs = [.ref a]/\b7 K H a (ns.map V.int)/\ns.length<=63 /\ ∀H',Q (.bl true) H'
theorem pf {K:KW}{H:Hp}{ι:Ix}:∀ns:List Int,ae K H ι (ns.map D.int) (ns.map V.int)
 | []=>by simp[ae]
 |n::ns=>by
  simp only[List.map_cons,ae]
  exact⟨_,_,rfl,by simp[Rel],pf ns⟩
theorem IL {K:KW}{fn:Fn}(h:∀ns:List Int,ns.length<=63->∃g',fn [.lst (ns.map .int)] []=some (.bl true,g'))(vs:List V)(H:Hp)(Q:VK)(E:XK)(q:wY K.fr vs H Q E):j6 K 1 fn vs H Q E:=by
 obtain⟨a,ns,rfl,hS,hl,hq⟩:=q
 obtain⟨g',hg⟩:=h ns hl
 refine⟨rfl,⟨[],[],λ_=>0⟩,[],[.lst (ns.map .int)],.bl true,g',⟨List.nodup_nil,rfl,(λb hb=>by cases hb),(λi xs z=>by simp at z)⟩,?_,hg,λH' ι' v e G r=>?_⟩
 . simp only[ae]
   refine⟨_,_,rfl,?_,rfl⟩
   simp only[Rel]
   refine⟨a,_,rfl,?_,pf ns⟩
   rcases hS with hS|hS
   . exact .inl ⟨hS,by simp,by simp⟩
   . exact .inr hS
 . simp only[Rel]at r
   rw[r]
   exact hq H'
inductive bD (K:PySem.W.Frag):List bo->List Addr->List FuncData->Prop
 |nil:bD K [] [] []
 |cons {nm:Str} {ps N:List Str} {st:Stmt} {kp pu:Bool} {mt:List Str} {ds:List bo} {fs:List Addr} {eK:List FuncData} {f:Addr} {oc:Value} {od an:Option Addr} {sl:Array (Option Value)} {kV dc pm cd ct:Value}
  (a:PySem.W.nsIn K mainGlobals nm=some (some (.ref f)))
  (l:K.lookup f=some ⟨oc,od,.func (PySem.W.fnOf nm nm (gv st) (c5 st) (aS st) .none kV dc pm an cd ct),sl⟩)
  (e:PySem.W.codeIn K cd nm=true) (k:PySem.W.keepIn K (.ref f)=true)
  (b:∀us:List Value,us.length=ps.length->bindArgs (PySem.W.fnOf nm nm (gv st) (c5 st) (aS st) .none kV dc pm an cd ct) ⟨us,[]⟩=pure (ps.zip us))
  (r:bD K ds fs eK):bD K (⟨nm,ps,N,st,kp,mt,pu⟩::ds) (f::fs) (PySem.W.fnOf nm nm (gv st) (c5 st) (aS st) .none kV dc pm an cd ct::eK)
theorem bD.get {K:PySem.W.Frag}{h:Heap}{mg:Str->Option Value}(X:K.In h)(G:h.Ns mainGlobals mg){f0:Addr}{d0:FuncData}:∀{ds:List bo} {fs:List Addr} {eK:List FuncData},bD K ds fs eK ->
  ∀j d,ds[j]? = some d->uC K d.nm d.nm d.st (fs.getD j f0) (eK.getD j d0)/\mg d.nm=some (.ref (fs.getD j f0))/\Binds K (eK.getD j d0) d.ps []
 |_,_,_,.nil,j,d,h=>by simp at h
 |_,_,_,.cons a l e k b r,0,d,h=>by
  simp at h;subst h
  exact⟨GS l e k,PySem.W.mg_of X G a,.all b⟩
 |_,_,_,.cons a l e k b r,j+1,d,h=>by
  simpa using r.get X G j d (by simpa using h)
theorem bD.Mu {K:PySem.W.Frag}{d0:FuncData}:∀{ds:List bo} {fs:List Addr} {eK:List FuncData},bD K ds fs eK->∀j d,ds[j]? = some d->∀us:List Value,us.length=d.ps.length->bindArgs (eK.getD j d0) ⟨us,[]⟩=pure (d.ps.zip us)
 |_,_,_,.nil,j,d,h=>by simp at h
 |_,_,_,.cons a l e k b r,0,d,h=>by
  simp at h;subst h
  exact b
 |_,_,_,.cons a l e k b r,j+1,d,h=>by
  simpa using r.Mu j d (by simpa using h)
theorem lL {p:List Value->Prop}(h:∀a,p [a]):∀us:List Value,us.length=1->p us
 | [a],_=>h a
theorem nh {p:List Value->Prop}(h:∀a b,p [a,b]):∀us:List Value,us.length=2->p us
 | [a,b],_=>h a b
theorem Rf {p:List Value->Prop}(h:∀a b c,p [a,b,c]):∀us:List Value,us.length=3->p us
 | [a,b,c],_=>h a b c
theorem Rg {p:List Value->Prop}(h:∀a b c d,p [a,b,c,d]):∀us:List Value,us.length=4->p us
 | [a,b,c,d],_=>h a b c d
theorem whole {l:PySem.W.OpenLaw}{w:World}{K:PySem.W.Frag}{h:Heap}{mg:Str->Option Value}{fa:Addr}{M:Mo}{T:Nat->Nat->Fn}{i R:Nat}{d:bo}{x:Str}{fs:List Addr}{eK:List FuncData}(X:K.In h)(G:h.Ns mainGlobals mg)(hd:M.ds[i]? = some d)(hx:d.ps = [x])(IM:d.nm = "law")(CT:mg "law" = some (.ref fa))
   (gd:Good M T) (L:bD K M.ds fs eK) (bl:∀y∈M.gk,PySem.W.nsIn K mainGlobals y=some none)
   (cn:∀y e,(y,e)∈M.si->∃v u,PySem.W.nsIn K mainGlobals y=some (some u)/\RelV v u /\ ∀K H ι,Rel K H ι e v)
   (dc:∀y t,(y,t)∈M.sj->∃a,PySem.W.nsIn K mainGlobals y=some (some (.ref a))/\bU w ⟨K,w,mg⟩ a t)
   (spec:∀ns:List Int,ns.length<=63->∃g',T R i [.lst (ns.map .int)] []=some (.bl true,g')):
   ∃fd:FuncData,(∀(s:Shared) (v:Value),BindsTo s fd ⟨[v],[]⟩ [(x,v)]) /\ ∀base:Heap,K.In base->base.Ns mainGlobals mg->cC l.prog w K mg base gh R fa fd [x] (wY K):=by
 have A:x5 M ⟨K,w,mg⟩ (λj=>fs.getD j fa) (λj=>eK.getD j (eK.getD 0 default)):=⟨λj d h=>L.get X G j d h,λy hy=>PySem.W.mg_none_of X G (bl y hy),λy e hm=>by
   obtain⟨v,u,h1,h2,h3⟩:=cn y e hm
   exact⟨v,u,PySem.W.mg_of X G h1,h2,h3⟩,λy t hm=>by
   obtain⟨a,h1,h2⟩:=dc y t hm
   exact⟨a,PySem.W.mg_of X G h1,h2⟩⟩
 obtain⟨F,hm,hb⟩:=A.fn i d hd
 rw[IM]at hm
 have e:fs.getD i fa=fa:=by
   have:=hm.symm.trans CT;injection this with this;injection this
 refine⟨eK.getD i (eK.getD 0 default),λs v=>.of_eq ?_,λbase _ _=>?_⟩
 . have:=L.Mu (d0:=eK.getD 0 default) i d hd [v] (by rw[hx];rfl)
   rw[this,hx];rfl
 have ok:=za (P:=l.prog) (base:=base) gd A R i d hd
 dsimp only at ok
 rw[e,hx]at ok
 exact cC.imp ok (IL (K:=⟨K,w,mg⟩) spec)
end RI
namespace TL
open PySem PySem.Spec PySem.SeqAt PyProof.Rows PySem.W
section
variable {prog:Program}{w:World}{A:Around}{E:Value->Shared->Prop}{s:Shared}
theorem kh {a:Addr}{p0:Array Nat}{vs out:List Value}{n:Nat}{κ:SortKind}{P:PySem.Fin->Shared->Prop}(ho:s.heap.get? a=some (seqObj "list" vs.toArray n))(sM:vs.length<64)
   (hk:2<=vs.length->∀Q:SortKind->Shared->Prop,Q κ { s with heap:=b4 s.heap a vs }->wpAny (model prog w) A (keyKind' vs.toArray) Q E { s with heap:=b4 s.heap a vs })
   (sN:vs.length<2->out=vs) (dJ:2<=vs.length->out=p0.toList.map λi=>vs.getD i .none) (hz:out.length<64)
   (hw:2<=vs.length->(kas_sort vs.length).kasWp (kas_ask prog w A κ vs) (λp s'=>s'={ s with heap:=b4 s.heap a vs }/\p=p0) { s with heap:=b4 s.heap a vs })
   (h:P (.done (.ret .none)) { s with heap:=sortedHeap s.heap a vs out.toArray }):
   wpAny (model prog w) A (Builtin.«list.sort» ⟨[.ref a],[]⟩) P E s:=by
 rw[list_sort_plain]
 have ha:a<s.heap.objs.size:=Heap.lt_size ho
 refine wpAny_bind (listItems_at ho rfl ?_)
 refine wpAny_bind (listUpdate_at ho rfl ?_ (by rw[List.size_toArray,sizeLine_eq];omega) (Nat.zero_le _))
 obtain⟨e1,Mv⟩:∃e1,(s.heap.update a (Obj.mapSeq λ_=>(#[]:Array Value))).get? a=some (seqObj "list" #[] e1):=⟨_,get?_update_seq ho (λ_=>#[])⟩
 refine wpAny_bind (seqEpoch_at Mv rfl ?_)
 refine wpAny_bind (wpAny_newTuple ?_ (by show vs.length<=_;rw[sizeLine_eq];omega))
 refine wpAny_bind (wpAny_newList ?_ (Nat.zero_le _))
 refine wpAny_holding ?_
 have CU:(b4 s.heap a vs).get? a=some (seqObj "list" #[] e1):=by
   unfold b4
   rw[Heap.get?_push_ne _ _ _ (by rw[size_push',Heap.size_update];exact Nat.ne_of_lt (Nat.lt_succ_of_lt ha)),Heap.get?_push_ne _ _ _ (by rw[Heap.size_update];exact Nat.ne_of_lt ha)]
   exact Mv
 show wpAny (model prog w) A _ P E { s with heap:=b4 s.heap a vs }
 dsimp only
 have cX:vs.toArray.size=vs.length:=by simp
 have Ia:(vs.toArray.zip vs.toArray).map (·.2)=vs.toArray:=by
   apply Array.toList_inj.mp
   simp[List.map_snd_zip]
 have fin:∀d6:SortSt,(arrOf d6).map (·.2)=out.toArray->failedOf d6=none->wpAny (model prog w) A (do
     let touched:=(<- seqEpoch a) != e1
     Builtin.List.listUpdate (.ref a) λ_=>(arrOf d6).map (·.2)
     if let some e:=failedOf d6 then rule "list.sort.comparison-raised";throw e
     if touched then rule "list.sort.modified";raiseError "ValueError" "list modified during sort"
     ret .none) P E { s with heap:=b4 s.heap a vs }:=by
   intro d6 e f
   refine wpAny_bind (seqEpoch_at CU rfl ?_)
   rw[e,f]
   refine wpAny_bind (listUpdate_at CU rfl ?_ (Nat.zero_le _) (by rw[List.size_toArray,sizeLine_eq];omega))
   simp only[bne_self_eq_false,Bool.false_eq_true,if_false]
   exact wpAny_pure h
 by_cases h2:vs.toArray.size<2
 . rw[if_pos h2,if_pos h2]
   refine wpAny_bind (wpAny_pure ?_)
   rw[StateT.run_pure]
   refine wpAny_bind (wpAny_pure ?_)
   exact fin (SortSt.mk' general' (vs.toArray.zip vs.toArray) #[] 7 none) (by rw[sN (by rw[cX]at h2;exact h2)];exact Ia) rfl
 . rw[if_neg h2,if_neg h2]
   have fR:2<=vs.length:=by rw[cX]at h2;omega
   refine wpAny_bind (hk fR _ ?_)
   refine wpAny_bind (wpAny_mono (kat_run (Q:=λd6 s'=>s'={ s with heap:=b4 s.heap a vs }/\(arrOf d6).map (·.2)=out.toArray/\failedOf d6=none)
     (G:=λp s'=>s'={ s with heap:=b4 s.heap a vs }/\p=p0)
     rfl fR sM (λp d6 s' a1 a2 a3 a4=>⟨a4.1,?_,a3⟩) (hw fR)) ?_ λ_ _ x=>x)
   . rw[kat_snds rfl a2,a4.2,dJ fR]
   . rintro⟨⟨⟩,d6⟩ s' ⟨rfl,hp,hf⟩
     exact fin d6 hp hf
theorem ki {l:Addr}{p0:Array Nat}{vs out:List Value}{κ:SortKind}{Q:Value->Shared->Prop}(hl:s.heap.IsList l vs.toArray)(sM:vs.length<64)
  (hk:2<=vs.length->∀(h':Heap),(∀b o,s.heap.get? b=some o->h'.get? b=some o)->∀(E:Value->Shared->Prop) (R:SortKind->Shared->Prop),R κ { s with heap:=h' }->wpAny (model prog w) A.in1.in1 (keyKind' vs.toArray) R E { s with heap:=h' })
  (sN:vs.length<2->out=vs) (dJ:2<=vs.length->out=p0.toList.map λi=>vs.getD i .none) (hz:out.length<64)
  (hw:∀(h':Heap),(∀b o,s.heap.get? b=some o->h'.get? b=some o)->2<=vs.length->(kas_sort vs.length).kasWp (kas_ask prog w A.in1.in1 κ vs) (λp s'=>s'={ s with heap:=h' }/\p=p0) { s with heap:=h' })
  (h:Q (.ref (s.heap.objs.size+1)) { s with heap:=sortedAll s.heap vs out.toArray }):
  wpAny (model prog w) A (call (.builtin "sorted") [.ref l]) Q E s:=by
 refine Calls.call_function_entry kind_sorted plain_sorted entry_sorted (args_sorted1 _) ?_
 unfold Builtin.«sorted»
 refine wpAny_bind (m:=checkCount "sorted" 1 1 _) (wpAny_pure ?_)
 refine wpAny_bind (collect_list hl ?_ (by rw[sizeLine_eq];omega))
 refine wpAny_bind (wpAny_newList ?_ (by rw[sizeLine_eq];omega))
 have cX:((s.heap.push (seqObj "list" #[] 0)).update s.heap.objs.size (Obj.mapSeq (· ++ vs.toArray))).objs.size=s.heap.objs.size+1:=by
  rw[Heap.size_update,size_push']
 have jF:(((s.heap.push (seqObj "list" #[] 0)).update s.heap.objs.size (Obj.mapSeq (· ++ vs.toArray))).push (seqObj "list" vs.toArray 0)).get? (s.heap.objs.size+1)=some (seqObj "list" vs.toArray 0):=by
  rw[<- cX];exact Heap.get?_push_size _ rfl
 have keep:∀b o,s.heap.get? b=some o->(((s.heap.push (seqObj "list" #[] 0)).update s.heap.objs.size (Obj.mapSeq (· ++ vs.toArray))).push (seqObj "list" vs.toArray 0)).get? b=some o:=λb o q=>by
  have aU:b<s.heap.objs.size:=Heap.lt_size q
  rw[Heap.get?_push_ne _ _ _ (by rw[cX];exact Nat.ne_of_lt (Nat.lt_succ_of_lt aU)),Heap.get?_update_ne _ _ _ _ (Nat.ne_of_lt aU),Heap.get?_push_ne _ _ _ (Nat.ne_of_lt aU)]
  exact q
 have nj:∀b o,s.heap.get? b=some o->(b4 (((s.heap.push (seqObj "list" #[] 0)).update s.heap.objs.size (Obj.mapSeq (· ++ vs.toArray))).push (seqObj "list" vs.toArray 0)) (s.heap.objs.size+1) vs).get? b=some o:=λb o q =>
  lI (Nat.ne_of_lt (Nat.lt_succ_of_lt (Heap.lt_size q))) (keep b o q)
 show wpAny _ _ _ _ _ { s with heap:=((s.heap.push (seqObj "list" #[] 0)).update s.heap.objs.size (Obj.mapSeq (· ++ vs.toArray))).push (seqObj "list" vs.toArray 0) }
 rw[cX]
 refine wpAny_bind (wpAny_holding (wpAny_call_entry slot_list_sort ⟨_,jF,rfl⟩ entry_list_sort (kh jF sM (λz R r=>hk z _ nj _ R r) sN dJ hz (λz=>hw _ nj z) ⟨_,rfl,?_⟩) (args_list_sort _)))
 exact wpAny_pure ⟨_,rfl,h⟩
end
noncomputable def cv {α:Type}(lt:Nat->Nat->Bool):KasT α->α
 |.ret a=>a
 |.ask i j k=>cv lt (k (lt i j))
theorem d_ {α β:Type}{lt:Nat->Nat->Bool}{f:α->KasT β}:∀t:KasT α,cv lt (t.bind f)=cv lt (f (cv lt t))
 |.ret _=>rfl
 |.ask i j k=>d_ (k (lt i j))
noncomputable def dP {α:Type}(N:Nat)(p:α->Prop):KasT α->Prop
 |.ret a=>p a
 |.ask i j k=>i<N/\j<N /\ ∀b,dP N p (k b)
theorem sO {α:Type}{lt:Nat->Nat->Bool}{N:Nat}{p:α->Prop}{cmp:Nat->Nat->(Bool->Shared->Prop)->Shared->Prop}{s:Shared}(h:∀i j,i<N->j<N->∀C:Bool->Shared->Prop,C (lt i j) s->cmp i j C s){G:α->Shared->Prop}:
  ∀t:KasT α,dP N p t->G (cv lt t) s->t.kasWp cmp G s
 |.ret a,_,g=>g
 |.ask i j k,a,g=>h i j a.1 a.2.1 _ (sO h (k (lt i j)) (a.2.2 _) g)
theorem dP.run {α:Type}{N:Nat}{p:α->Prop}{lt:Nat->Nat->Bool}:∀{t:KasT α},dP N p t->p (cv lt t)
 |.ret _,h=>h
 |.ask i j k,h=>(h.2.2 (lt i j)).run
theorem dP.bind {α β:Type}{N:Nat}{f:α->KasT β}{p:α->Prop}{q:β->Prop}:∀{t:KasT α},dP N p t->(∀a,p a->dP N q (f a))->dP N q (t.bind f)
 |.ret a,h,k=>k a h
 |.ask i j t,a,k=>⟨a.1,a.2.1,λb=>(a.2.2 b).bind k⟩
def bJ (N:Nat)(p:Array Nat):Prop:=p.toList.Perm (List.range N)
theorem bJ.lt {N:Nat}{p:Array Nat}(h:bJ N p)(hN:0<N)(i:Nat):p.getD i 0<N:=by
 rw[Array.getD_eq_getD_getElem?]
 cases e:p[i]? with
 |none=>exact hN
 |some x =>
  have:x∈p.toList:=Array.mem_toList_iff.mpr (Array.mem_of_getElem? e)
  exact List.mem_range.mp (h.mem_iff.mp this)
theorem bJ.rev {N:Nat}{p:Array Nat}(h:bJ N p)(i j:Nat):bJ N (kas_rev p i j):=((mirror_perm p i j _).toList).trans h
theorem bJ.Mw {N:Nat}{p:Array Nat}(h:bJ N p)(i j:Nat):bJ N (bubble p i j):=((bubble_perm p i j).toList).trans h
section
variable {N:Nat}(hN:0<N)
include hN
theorem sP {p:Array Nat}(hp:bJ N p):∀f n,dP N (λ_=>True) (kas_asc p f n)
 | 0,_=>True.intro
 |f+1,n=>⟨hp.lt hN _,hp.lt hN _,λb=>by
  cases b
  . exact sP hp f (n+1)
  . exact True.intro⟩
theorem kN:∀f {p:Array Nat} n q,bJ N p->dP N (λr=>bJ N r.1) (kas_desc f p n q)
 | 0,p,n,q,hp=>hp
 |f+1,p,n,q,hp=>by
  refine⟨hp.lt hN _,hp.lt hN _,λb=>?_⟩
  cases b
  . refine⟨hp.lt hN _,hp.lt hN _,λb=>?_⟩
    cases b
    . exact kN f _ _ hp
    . exact hp
  . simp only[if_true]
    split
    . exact kN f _ _ (hp.rev _ _)
    . exact kN f _ _ hp
theorem sQ {p:Array Nat}{n m:Nat}(hp:bJ N p):dP N (λr=>bJ N r.2) (kas_tail3 n m p):=dP.bind (sP hN (hp.rev _ _) _ _) λ_ _=>hp.rev _ _
theorem lM {p:Array Nat}{n m:Nat}(hp:bJ N p):dP N (λr=>bJ N r.2) (kas_descPart n m p):=dP.bind (kN hN _ _ _ hp) λr hr=>by
 split
 . exact sQ hN (bJ.rev hr _ _)
 . exact sQ hN hr
theorem Bu {p:Array Nat}{n:Nat}(hp:bJ N p):dP N (λr=>bJ N r.2) (kas_count n p):=dP.bind (sP hN hp _ _) λm _=>by
 split
 . exact hp
 split
 . refine⟨hp.lt hN _,hp.lt hN _,λb=>?_⟩
   cases b
   . exact lM hN (hp.rev _ _)
   . exact hp
 . exact lM hN hp
theorem ml {p:Array Nat}{k:Nat}(hp:bJ N p):∀f l r,dP N (λ_=>True) (kas_place p k f l r)
 | 0,_,_=>True.intro
 |f+1,l,r=>by
  unfold kas_place
  split
  . exact True.intro
  . refine⟨hp.lt hN _,hp.lt hN _,λb=>?_⟩
    cases b
    . exact ml hp f _ _
    . exact ml hp f _ _
theorem zb:∀f {p:Array Nat} k,bJ N p->dP N (bJ N) (kas_bin f p k)
 | 0,p,_,hp=>hp
 |f+1,p,k,hp=>dP.bind (ml hN hp _ _ _) λl _=>zb f _ (hp.Mw _ _)
theorem iV:dP N (bJ N) (kas_sort N):=dP.bind (Bu hN (show(List.toArray (List.range N)).toList.Perm _ by simp)) λr hr=>by
 split
 . exact zb hN _ _ hr
 . exact hr
end
end TL
namespace L3
open PySem PySem.Spec PyProof.Rows L2 SeqAt
mutual
noncomputable def ltN:D->D->Option Bool
 |.int a,.int b=>some (decide (a<b))
 |.str a,.str b=>some (decide (a.cps.toList<b.cps.toList))
 |.tup xs,.tup ys=>bZ (decide (xs.length<ys.length)) xs ys
 |_,_=>none
noncomputable def bZ (fin:Bool):List D->List D->Option Bool
 |x::xs,y::ys=>if au x y=true then bZ fin xs ys else ltN x y
 |_,_=>some fin
end
section
variable {X:Cx}{pins:List (Addr×Obj)}{σ:L2.St}{H:Hp}{s:Shared}{ι:Ix}
mutual
theorem CV (I:Inv X pins σ H s):∀(d e:D) {A:Around} {v w:V} {u z:Value} {k:Bool},flat d=true->flat e=true->Rel X.kw H ι d v->Rel X.kw H ι e w->RelV v u->RelV w z->A.units+dep d<cLine->ltN d e=some k->TL.jw A s u z k
 |.int a,e,A,v,w,u,z,k,_,_,r1,r2,ru,rz,_,h=>by
  cases e with
  |int b =>
   simp only[ltN,Option.some.injEq]at h;subst h
   simp only[Rel]at r1 r2;subst r1 r2
   obtain⟨t,rfl⟩:=ru;obtain⟨t',rfl⟩:=rz
   exact .ints a b t t'
  |_=>simp[ltN]at h
 |.str a,e,A,v,w,u,z,k,_,_,r1,r2,ru,rz,_,h=>by
  cases e with
  |str b =>
   simp only[ltN,Option.some.injEq]at h;subst h
   simp only[Rel]at r1 r2;subst r1 r2
   obtain⟨t,rfl⟩:=ru;obtain⟨t',rfl⟩:=rz
   exact .strs a b t t'
  |_=>simp[ltN]at h
 |.tup xs,e,A,v,w,u,z,k,f1,f2,r1,r2,ru,rz,hu,h=>by
  cases e with
  |tup ys =>
   simp only[ltN]at h
   simp only[Rel]at r1 r2
   obtain⟨p,vs,rfl,hq,hr⟩:=r1
   obtain⟨p',ws,rfl,bb,cu⟩:=r2
   cases ru;cases rz
   obtain⟨ah,aN,ht,_⟩:=I.tuple hq.sq
   obtain⟨Rh,IP,eI,_⟩:=I.tuple bb.sq
   simp only[dep]at hu
   have l1:ah.toArray.size=xs.length:=by rw[List.size_toArray,<- aN.length,hr.length]
   have l2:Rh.toArray.size=ys.length:=by rw[List.size_toArray,<- IP.length,cu.length]
   refine TL.jw.tuples ht eI (by omega) ?_
   rw[l1,l2]
   exact zc I xs ys f1 f2 hr cu aN IP (by rw[in1_units];omega) h
  |_=>simp[ltN]at h
 |.ao,e,A,v,w,u,z,k,_,_,_,_,_,_,_,h=>by simp[ltN]at h
 |.bl _,e,A,v,w,u,z,k,_,_,_,_,_,_,_,h=>by simp[ltN]at h
 |.lst _,e,A,v,w,u,z,k,_,_,_,_,_,_,_,h=>by simp[ltN]at h
 |.bF,e,A,v,w,u,z,k,_,_,_,_,_,_,_,h=>by simp[ltN]at h
 |.ref _,e,A,v,w,u,z,k,_,_,_,_,_,_,_,h=>by simp[ltN]at h
 |.aI _,e,A,v,w,u,z,k,_,_,_,_,_,_,_,h=>by simp[ltN]at h
 |.fn _,e,A,v,w,u,z,k,_,_,_,_,_,_,_,h=>by simp[ltN]at h
theorem zc (I:Inv X pins σ H s):∀(xs ys:List D) {A:Around} {fin k:Bool} {vs ws:List V} {us zs:List Value},az xs=true->az ys=true->ae X.kw H ι xs vs->ae X.kw H ι ys ws->Vals vs us->Vals ws zs->A.units+bC xs<cLine ->
  bZ fin xs ys=some k->TL.Lex A s fin (us.zip zs) k
 | [],ys,A,fin,k,vs,ws,us,zs,_,_,r1,_,ru,_,_,h=>by
  simp only[ae]at r1;subst r1;cases ru
  simp only[bZ,Option.some.injEq]at h;subst h
  simp only[List.zip_nil_left];exact .nil
 |d::ds,[],A,fin,k,vs,ws,us,zs,_,_,_,r2,_,rz,_,h=>by
  simp only[ae]at r2;subst r2;cases rz
  simp only[bZ,Option.some.injEq]at h;subst h
  simp only[List.zip_nil_right];exact .nil
 |d::ds,e::es,A,fin,k,vs,ws,us,zs,f1,f2,r1,r2,ru,rz,hu,h=>by
  simp only[ae]at r1 r2
  obtain⟨v,vr,rfl,hv,hr⟩:=r1
  obtain⟨w,wr,rfl,hw,yB⟩:=r2
  simp only[az,Bool.and_eq_true]at f1 f2
  simp only[bC]at hu
  cases ru with
  |cons gj rL =>
   cases rz with
   |cons lG yC =>
    have heq:=DK.mW I (A:=A) f1.1 f2.1 hv hw gj lG (by omega)
    simp only[bZ]at h
    simp only[List.zip_cons_cons]
    split at h
    . rename_i z
      rw[z]at heq
      exact .eq heq (zc I ds es f1.2 f2.2 hr yB rL yC (by omega) h)
    . rename_i z
      rw[Bool.eq_false_iff.mpr z]at heq
      exact .ne heq (CV I d e f1.1 f2.1 hv hw gj lG (by omega) h)
end
noncomputable def IQ:List D->List D->Bool
 |.int _::_,.int _::_=>true
 |.str _::_,.str _::_=>true
 | [],_=>true
 |_,[]=>true
 |_,_=>false
theorem mn (I:Inv X pins σ H s){prog:Program}{w:World}{b fin:Bool}{Q:Bool->Shared->Prop}:∀(xs ys:List D) {A:Around} {k:Bool} {i:Nat} {vs ws:List V} {us zs:List Value},az xs=true->az ys=true->ae X.kw H ι xs vs->ae X.kw H ι ys ws->Vals vs us->Vals ws zs->A.units+bC xs<cLine ->
  (b=true->i=0->IQ xs ys=true)->bZ fin xs ys=some k->Q k s->PySem.W.KatLex prog w A b fin Q (us.zip zs) i s
 | [],ys,A,k,i,vs,ws,us,zs,_,_,r1,_,ru,_,_,_,h,q=>by
  simp only[ae]at r1;subst r1;cases ru
  simp only[bZ,Option.some.injEq]at h;subst h
  simp only[List.zip_nil_left];exact PySem.W.kat_nil q
 |d::ds,[],A,k,i,vs,ws,us,zs,_,_,_,r2,_,rz,_,_,h,q=>by
  simp only[ae]at r2;subst r2;cases rz
  simp only[bZ,Option.some.injEq]at h;subst h
  simp only[List.zip_nil_right];exact PySem.W.kat_nil q
 |d::ds,e::es,A,k,i,vs,ws,us,zs,f1,f2,r1,r2,ru,rz,hu,hb,h,q=>by
  simp only[ae]at r1 r2
  obtain⟨v,vr,rfl,hv,hr⟩:=r1
  obtain⟨w',wr,rfl,hw,yB⟩:=r2
  simp only[az,Bool.and_eq_true]at f1 f2
  simp only[bC]at hu
  cases ru with
  |cons gj rL =>
   cases rz with
   |cons lG yC =>
    have heq:=DK.mW I (A:=A) f1.1 f2.1 hv hw gj lG (by omega)
    simp only[bZ]at h
    simp only[List.zip_cons_cons]
    split at h
    . rename_i z
      rw[z]at heq
      exact PySem.W.kat_cons (heq _ _ _ _ (PySem.W.kat_yes (mn I ds es f1.2 f2.2 hr yB rL yC (by omega) (λ_ z=>by omega) h q)))
    . rename_i z
      rw[Bool.eq_false_iff.mpr z]at heq
      refine PySem.W.kat_cons (heq _ _ _ _ (PySem.W.kat_no ?_))
      have lt:=CV I d e (A:=A) f1.1 f2.1 hv hw gj lG (by omega) h
      cases CW:(b&&i == 0)with
      |false =>
       refine PySem.W.kat_one _ _ ?_
       refine lt _ _ _ _ ?_
       exact q
      |true =>
       simp only[Bool.and_eq_true,beq_iff_eq]at CW
       have:=hb CW.1 CW.2
       cases d with
       |int a=>cases e with
        |int c =>
         simp only[Rel]at hv hw;subst hv hw
         obtain⟨t,rfl⟩:=gj;obtain⟨t',rfl⟩:=lG
         simp only[ltN,Option.some.injEq]at h;subst h
         exact PySem.W.kat_lt_int q
        |_=>cases this
       |str a=>cases e with
        |str c =>
         simp only[Rel]at hv hw;subst hv hw
         obtain⟨t,rfl⟩:=gj;obtain⟨t',rfl⟩:=lG
         simp only[ltN,Option.some.injEq]at h;subst h
         exact PyProof.Rows.oneLt_str q
        |_=>cases this
       |_=>cases this
end
noncomputable def fZ:D->Option Nat
 |.tup (.int _::_)=>some 1
 |.tup (.tup _::_)=>some 0
 |.tup (.str _::_)=>some 2
 |_=>none
noncomputable def CY:Nat->String
 | 0=>"tuple"
 | 1=>"int"
 |_=>"str"
noncomputable def tyB (k:Nat):Bool:=k != 0
noncomputable def ltB (x y:D):Bool:=(ltN x y).getD false
noncomputable def pq (xs:List D):Bool:=decide (xs.length<64)&&az xs&&decide (bC xs<=50)&&(decide (xs.length<2)||((xs.all λx=>fZ x == some 1)||((xs.all λx=>fZ x == some 0)||xs.all λx=>fZ x == some 2)))&&xs.all λx=>xs.all λy=>(ltN x y).isSome
noncomputable def dz (xs:List D):List Nat:=(TL.cv (λi j=>ltB (xs.getD i .ao) (xs.getD j .ao)) (PySem.W.kas_sort xs.length)).toList
noncomputable def cN (xs:List D):List D:=if xs.length<2 then xs else(dz xs).map λi=>xs.getD i .ao
noncomputable def kj (ds:List D)(g:G):Option (D×G):=match ds with| [d]=>(eJ d g).bind λxs=>if pq xs=true then some (.lst (cN xs),g)else none|_=>none
theorem cW {xs:List D}(h:2<=xs.length):(dz xs).Perm (List.range xs.length):=(TL.iV (N:=xs.length) (by omega)).run
theorem wZ {α:Type}(xs:List α)(d:α):(List.range xs.length).map (λi=>xs.getD i d)=xs:=by
 apply List.ext_getElem
 . simp
 . intro i h1 h2
   simp[h2]
theorem nk (xs:List D):(cN xs).Perm xs:=by
 unfold cN
 split
 . exact .refl _
 . rename_i h
   have:=(cW (xs:=xs) (by omega)).map λi=>xs.getD i .ao
   rw[wZ]at this
   exact this
theorem ae.w5 {K H ι}{xs:List D}{vs:List V}(r:ae K H ι xs vs):∀{is:List Nat},(∀i∈is,i<xs.length)->ae K H ι (is.map λi=>xs.getD i .ao) (is.map λi=>vs.getD i .ao)
 | [],_=>by simp[ae]
 |i::is,h=>by
  simp only[List.map_cons,ae]
  obtain⟨v,h1,h2⟩:=r.get (List.getElem?_eq_getElem (h i List.mem_cons_self))
  refine⟨_,_,rfl,?_,ae.w5 r λj hj=>h j (List.mem_cons_of_mem _ hj)⟩
  have e1:xs.getD i .ao=xs[i]'(h i List.mem_cons_self):=by simp[h i List.mem_cons_self]
  have e2:vs.getD i .ao=v:=by simp[h1]
  rw[e1,e2];exact h2
theorem Vals.pick {vs:List V}{us:List Value}(r:Vals vs us):∀{is:List Nat},(∀i∈is,i<vs.length)->Vals (is.map λi=>vs.getD i .ao) (is.map λi=>us.getD i .none)
 | [],_=>.nil
 |i::is,h=>by
  obtain⟨u,h1,h2⟩:=r.get (List.getElem?_eq_getElem (h i List.mem_cons_self))
  refine .cons ?_ (Vals.pick r λj hj=>h j (List.mem_cons_of_mem _ hj))
  have e1:vs.getD i .ao=vs[i]'(h i List.mem_cons_self):=by simp[h i List.mem_cons_self]
  have e2:us.getD i .none=u:=by simp[h1]
  show RelV (vs.getD i .ao) (us.getD i .none)
  rw[e1,e2];exact h2
theorem zd (b:Nat):(Value.type (CY b) != Value.type "tuple")=tyB b:=by
 match b with
 | 0=>rfl
 | 1=>rfl
 |_+2=>rfl
theorem ze {d e:D}{b:Nat}(h1:fZ d=some b)(h2:fZ e=some b):∃xs ys,d = .tup xs/\e = .tup ys/\(tyB b=true->IQ xs ys=true):=by
 unfold fZ at h1 h2
 split at h1<;>cases h1<;>split at h2<;>cases h2
 . exact⟨_,_,rfl,rfl,λ_=>rfl⟩
 . exact⟨_,_,rfl,rfl,λz=>by cases z⟩
 . exact⟨_,_,rfl,rfl,λ_=>rfl⟩
section
variable {X:Cx}
theorem mq {pins:List (Addr×Obj)}{σ:L2.St}{H:Hp}{s:Shared}{ι:Ix}(I:Inv X pins σ H s){b:Nat}:∀(xs:List D) {vs:List V} {us:List Value},ae X.kw H ι xs vs->Vals vs us->(∀d∈xs,fZ d=some b) ->
  ∃fs,PySem.W.KatTups s.heap us fs/\fs.length=us.length /\ ∀f∈fs,PySem.W.Looks (model X.prog X.w) s.heap (typeOf f) (.type (CY b))
 | [],vs,us,r,ru,_=>by
  simp only[ae]at r;subst r;cases ru
  exact⟨[],PySem.W.KatTups.nil,rfl,λ_ h=>by simp at h⟩
 |d::ds,vs,us,r,ru,ht=>by
  simp only[ae]at r
  obtain⟨v,vr,rfl,hv,hr⟩:=r
  cases ru with
  |cons gj rL =>
   obtain⟨fs,h1,h2,h3⟩:=mq I ds hr rL λe he=>ht e (List.mem_cons_of_mem _ he)
   have hd:=ht d (List.mem_cons_self ..)
   unfold fZ at hd
   split at hd
   . rename_i n r'
     cases hd
     simp only[Rel]at hv
     obtain⟨p,vs,rfl,hq,pv⟩:=hv
     cases gj
     obtain⟨ah,aN,⟨o,ho,hc,m,zf⟩,_⟩:=I.tuple hq.sq
     simp only[ae,Rel]at pv
     obtain⟨v1,HQ,rfl,rfl,_⟩:=pv
     cases aN with
     |cons ri rr =>
      obtain⟨t,rfl⟩:=ri
      refine⟨.int n t::fs,PySem.W.KatTups.cons ho hc zf rfl h1,by simp[h2],λf hf=>?_⟩
      rcases List.mem_cons.mp hf with rfl|hf
      . exact PySem.W.Looks.of_pure rfl
      . exact h3 f hf
   . rename_i ys r'
     cases hd
     simp only[Rel]at hv
     obtain⟨p,vs,rfl,hq,pv⟩:=hv
     cases gj
     obtain⟨ah,aN,⟨o,ho,hc,m,zf⟩,_⟩:=I.tuple hq.sq
     simp only[ae,Rel]at pv
     obtain⟨v1,HQ,rfl,⟨q,ws,rfl,j8,_⟩,_⟩:=pv
     obtain⟨_,_,⟨o2,dJ,f_,_⟩,_⟩:=I.tuple j8.sq
     cases aN with
     |cons ri rr =>
      cases ri
      refine⟨.ref q::fs,PySem.W.KatTups.cons ho hc zf rfl h1,by simp[h2],λf hf=>?_⟩
      rcases List.mem_cons.mp hf with rfl|hf
      . show PySem.W.Looks _ _ (typeOf (.ref q)) (Value.type "tuple")
        rw[<- f_]
        exact(PySem.W.Looks.ld dJ).andThen .now
      . exact h3 f hf
   . rename_i n r'
     cases hd
     simp only[Rel]at hv
     obtain⟨p,vs,rfl,hq,pv⟩:=hv
     cases gj
     obtain⟨ah,aN,⟨o,ho,hc,m,zf⟩,_⟩:=I.tuple hq.sq
     simp only[ae,Rel]at pv
     obtain⟨v1,HQ,rfl,rfl,_⟩:=pv
     cases aN with
     |cons ri rr =>
      obtain⟨t,rfl⟩:=ri
      refine⟨.str n t::fs,PySem.W.KatTups.cons ho hc zf rfl h1,by simp[h2],λf hf=>?_⟩
      rcases List.mem_cons.mp hf with rfl|hf
      . exact PySem.W.Looks.of_pure rfl
      . exact h3 f hf
   . cases hd
theorem Bv (hu:X.A.units+64<cLine):bS X (.builtin "sorted") (h_ X.kw kj):=by
 intro pins s σ H xs us Q I r q
 obtain⟨ι,g,ds,d,g',G0,r1,q,p⟩:=q
 cases ds with
 |nil=>cases q
 |cons e yD =>
 cases yD with
 |cons _ _=>cases q
 |nil =>
  simp only[kj]at q
  obtain⟨ys,hx,q⟩:=bind_some q
  split at q
  . rename_i z
    simp only[pq,Bool.and_eq_true,Bool.or_eq_true,decide_eq_true_eq]at z
    obtain⟨⟨⟨⟨z1,z2⟩,z3⟩,z4⟩,z5⟩:=z
    cases q
    simp only[ae]at r1
    obtain⟨v,_,rfl,rv,rfl⟩:=r1
    obtain⟨a,vs,rfl,hq,hr⟩:=gQ G0 rv hx
    cases r with
    |cons ru rr =>
     cases rr
     cases ru
     obtain⟨ah,aN,ht,cX⟩:=I.list hq
     have hlen:ah.length=ys.length:=by rw[<- aN.length,hr.length]
     have IS:vs.length=ys.length:=hr.length.symm
     obtain⟨b,hb⟩:∃b:Nat,2<=ys.length->∀d∈ys,fZ d=some b:=by
       rcases z4 with z4|z4|z4|z4
       . exact⟨1,λh=>by omega⟩
       . exact⟨1,λ_ d hd=>eq_of_beq (List.all_eq_true.mp z4 d hd)⟩
       . exact⟨0,λ_ d hd=>eq_of_beq (List.all_eq_true.mp z4 d hd)⟩
       . exact⟨2,λ_ d hd=>eq_of_beq (List.all_eq_true.mp z4 d hd)⟩
     have pm:2<=ys.length->∀i∈dz ys,i<ys.length:=λh i hi=>List.mem_range.mp ((cW h).mem_iff.mp hi)
     have fin:∀(out:List Value) (ov:List V),Vals ov out->ae X.kw H ι (cN ys) ov->out.length<64->EP X pins σ Q (.ref (s.heap.objs.size+1)) { s with heap:=sortedAll s.heap ah out.toArray }:=λout ov h1 h2 hz=>by
       obtain⟨c,hc⟩:=sortedAll_at s.heap ah out.toArray
       have d7:=I.aV.fresh (Nat.le_succ s.heap.objs.size)
       refine⟨.ref (s.heap.objs.size+1),_,I.laid (t':=s.toks) (λb o e=>sortedAll_old e) (Nat.le_succ _) (show b8 X.prog X.w _ _ _ (.lst ov) from⟨by rw[h1.length,sizeLine_eq];omega,out,c,h1,by simpa[seqObj]using hc⟩),rfl,?_⟩
       refine p _ _ _ (Ext.lay d7) (G0.lay d7) ?_
       simp only[Rel]
       exact⟨_,_,rfl,.inl ⟨.inl aR,G0.fresh d7,G0.gK d7⟩,ae.ext (Ext.lay d7) _ h2⟩
     have run:∀(h':Heap),(∀b o,s.heap.get? b=some o->h'.get? b=some o)->2<=ah.length->(PySem.W.kas_sort ah.length).kasWp (PySem.W.kas_ask X.prog X.w X.A.in1.in1 (tuples' (tyB b)) ah) (λp s'=>s'={ s with heap:=h' }/\p=(dz ys).toArray) { s with heap:=h' }:=λh' hk h2=>by
       have I':Inv X pins σ H { s with heap:=h' }:=I.kept (t':=s.toks) hk
       refine TL.sO (lt:=λi j=>ltB (ys.getD i .ao) (ys.getD j .ao)) (N:=ah.length) (λi j hi hj C hC=>?_) _ (TL.iV (by omega)) ⟨rfl,?_⟩
       . have nt:i<ys.length:=by omega
         have nu:j<ys.length:=by omega
         obtain⟨vi,IT,ri⟩:=hr.get (List.getElem?_eq_getElem nt)
         obtain⟨vj,IU,rj⟩:=hr.get (List.getElem?_eq_getElem nu)
         obtain⟨ui,IV,IW⟩:=aN.get IT
         obtain⟨uj,IX,IY⟩:=aN.get IU
         unfold PySem.W.kas_ask
         have e1:ah.getD i .none=ui:=by simp[IV]
         have e2:ah.getD j .none=uj:=by simp[IX]
         have e3:ys.getD i .ao=ys[i]:=by simp[nt]
         have e4:ys.getD j .ao=ys[j]:=by simp[nu]
         rw[e1,e2]
         rw[e3,e4]at hC
         have mi:=List.getElem_mem nt
         have mj:=List.getElem_mem nu
         have ti:=hb (by omega) _ mi
         have tj:=hb (by omega) _ mj
         obtain⟨fi,di⟩:=d9 z2 (List.getElem?_eq_getElem nt)
         obtain⟨fj,dj⟩:=d9 z2 (List.getElem?_eq_getElem nu)
         obtain⟨k,sR⟩:=Option.isSome_iff_exists.mp (List.all_eq_true.mp (List.all_eq_true.mp z5 _ mi) _ mj)
         unfold ltB at hC
         rw[sR]at hC
         generalize ys[i]=Ri at *
         generalize ys[j]=Rj at *
         obtain⟨xi,xj,rfl,rfl,bi⟩:=ze ti tj
         simp only[Rel]at ri rj
         obtain⟨pi,wi,rfl,qi,zg⟩:=ri
         obtain⟨pj,wj,rfl,qj,zh⟩:=rj
         cases IW;cases IY
         obtain⟨ji,zj,⟨oi,IZ,_,Rk,I0⟩,_⟩:=I'.tuple qi.sq
         obtain⟨jj,zl,⟨oj,I_,_,Rl,Ja⟩,_⟩:=I'.tuple qj.sq
         refine PySem.W.kat_lt IZ I0 I_ Ja ?_
         have l1:ji.toArray.size=xi.length:=by rw[List.size_toArray,<- zj.length,zg.length]
         have l2:jj.toArray.size=xj.length:=by rw[List.size_toArray,<- zl.length,zh.length]
         simp only[ltN]at sR
         rw[l1,l2]
         simp only[dep]at di
         exact mn I' xi xj fi fj zg zh zj zl (by rw[in1_units,in1_units];omega) (λeD _=>bi eD) sR hC
       . unfold dz
         rw[hlen]
     refine TL.ki (κ:=tuples' (tyB b)) (p0:=(dz ys).toArray) (out:=if ah.length<2 then ah else(dz ys).map λi=>ah.getD i .none) ht.isList (by omega) (λh2 h' hk E R hR=>?_) (λh=>if_pos h) (λh=>by rw[if_neg (by omega)]) ?_ run ?_
     . have I':Inv X pins σ H { s with heap:=h' }:=I.kept (t':=s.toks) hk
       obtain⟨fs,k1,k2,k3⟩:=mq I' ys hr aN (hb (by omega))
       refine PySem.W.kat_kind (T:=.type (CY b)) k1 (by omega) k3 (by simp) ?_
       rw[zd];exact hR
     . split
       . omega
       . rw[List.length_map,(cW (xs:=ys) (by omega)).length_eq,List.length_range];omega
     . by_cases h2:ah.length<2
       . rw[if_pos h2]
         exact fin ah vs aN (by unfold cN;rw[if_pos (by omega)];exact hr) (by omega)
       . rw[if_neg h2]
         refine fin _ _ (Vals.pick aN λi hi=>by rw[IS];exact pm (by omega) i hi) ?_ (by rw[List.length_map,(cW (xs:=ys) (by omega)).length_eq,List.length_range];omega)
         unfold cN
         rw[if_neg (by omega)]
         exact ae.w5 hr (pm (by omega))
  . cases q
end
end L3
namespace RI
open PySem PySem.Spec PyProof.Rows L2 L3
noncomputable def N_:fK:=⟨"len",iz,λ_ _=>.inl ⟨_,HW,PySem.boot_len⟩⟩
noncomputable def Oa:fK:=⟨"int",dY,λ_ _=>.inr ⟨_,H0,boot_int⟩⟩
noncomputable def Ob:fK:=⟨"tuple",cD,λ_ _=>.inr ⟨_,H4,boot_tuple⟩⟩
noncomputable def Lm:fK:=⟨"repr",ie,λhr _=>.inl ⟨_,EN hr.gd hr.units,boot_repr⟩⟩
noncomputable def Oc:fK:=⟨"max",nV,λ_ hc=>.inl ⟨_,HY hc,boot_max⟩⟩
noncomputable def Od:fK:=⟨"min",nW,λ_ hc=>.inl ⟨_,HZ hc,boot_min⟩⟩
noncomputable def isRef:D->Bool
 |.ref _=>true
 |_=>false
theorem sT {X:Cx}{pins:List (Addr×Obj)}{σ:L2.St}{H:Hp}{s:Shared}{ι:Ix}{g:G}{d:D}{x:V}{v:Value}(I:Inv X pins σ H s)(G0:ak X.kw H ι g)(r:Rel X.kw H ι d x)(rv:RelV x v)(h:isRef d=true):
  s.TypeIs v "list" /\ ∀a,v = .ref a->∃ob,s.heap.get? a=some ob/\ob.dict=none:=by
 cases d with
 |ref n =>
  simp only[Rel]at r
  obtain⟨a,rfl,ha⟩:=r
  have hi:n<g.length:=by rw[<- G0.len];exact(List.getElem?_eq_some_iff.mp ha.1).1
  obtain⟨vs,hv,_⟩:=G0.at (List.getElem?_eq_getElem hi) ha
  exact qJ I rv (.inl ⟨rfl,vs,.of hv⟩)
 |_=>cases h
noncomputable def eh (d:D)(ds:List D)(g:G):Option (D×G):=match d,ds with
 |.ref n,[x]=>(g[n]?).bind λxs=>if aC (xs.length+1)=true then some (.ao,g.set n (xs ++ [x]))else none
 |_,_=>none
theorem zm {X:Cx}:MR X "list" "append" "list.append" isRef eh where
 pa:=PySem.F.plainAttrs_list
 slot:=PySem.F.slot_list_append
 ty:=PySem.F.type_list_append
 is:=sT
 run:=by
  intro pins s σ H x xs v us Q I rx rs q
  obtain⟨ι,g,d,ds,d',g',G0,r1,rl,hT,q,p⟩:=q
  cases d with
  |ref n =>
   match ds,q,rl with
   | [y],q,rl =>
    simp only[eh]at q
    obtain⟨ys,hx,q⟩:=bind_some q
    split at q
    . rename_i hz
      cases q
      simp only[Rel]at r1
      obtain⟨a,rfl,ha⟩:=r1
      simp only[ae]at rl
      obtain⟨w,_,rfl,rw_,rfl⟩:=rl
      obtain⟨ws,hw,hr⟩:=G0.at hx ha
      refine oP pins s σ H _ _ v us Q I rx rs ⟨a,ws,w,rfl,rfl,hw,?_,?_⟩
      . have:=aC.le hz;rw[<- hr.length];omega
      . exact p _ ι _ (Ext.put ha hw) (G0.put ha hw (ae.append hr (by simp only[ae];exact⟨_,_,rfl,rw_,rfl⟩))) (by simp[Rel])
    . cases q
   | [],q,_=>cases q
   |_::_::_,q,_=>cases q
  |_=>cases hT
noncomputable def Bw:nc:=⟨"append",isRef,eh,λ_=>⟨_,_,zm⟩⟩
noncomputable def ny:D->Bool
 |.lst _=>true
 |_=>false
noncomputable def sU (d:D)(ds:List D)(g:G):Option (D×G):=match d,ds with
 |.lst xs,[x]=>if(c_ x&&xs.all c_)=true then(lZ xs x).map λ(j:Nat)=>(.int (j:Int),g)else none
 |_,_=>none
noncomputable def zo (E:Expr->FE)(as:List Expr):FI:=match as with
 | [a]=>bP (aE E [a])
 | [a,b]=>L5 (aE E [a,b])
 |_=>sr
noncomputable def E5:CJ where
 nm:="range"
 tup:=false
 f:=zo
 ok:=λhr hc hm hg hE cA _=>by
  rename_i X k E tg as p pos
  unfold zo
  split
  . rename_i a
    simp only[List.any_cons,List.any_nil,Bool.or_false]at cA
    exact KR hg hm (fL hE _) (bq cA)
  . rename_i a b
    simp only[List.any_cons,List.any_nil,Bool.or_false,Bool.or_eq_false_iff]at cA
    exact KS hg hm (fL hE _) (by rw[bq cA.1,bq cA.2];rfl) (bq cA.2)
  . exact vg
noncomputable def By (x:Str):Option Ty:=if x == "int" then some .int else if x == "bool" then some .bool else if x == "str" then some .str else if x == "tuple" then some .tuple else if x == "list" then some .list else if x == "dict" then some .dict else none
theorem E6 {x:Str}{T:Ty}(h:By x=some T):x=Str.ofString T.name:=by
 unfold By at h
 split at h;· rename_i e;cases h;exact eq_of_beq e
 split at h;· rename_i e;cases h;exact eq_of_beq e
 split at h;· rename_i e;cases h;exact eq_of_beq e
 split at h;· rename_i e;cases h;exact eq_of_beq e
 split at h;· rename_i e;cases h;exact eq_of_beq e
 split at h;· rename_i e;cases h;exact eq_of_beq e
 cases h
noncomputable def CZ:G0->Cs->(Expr->FE)->Expr->Option FT:=λ_ _ _ _=>none
noncomputable def Oe:jA where
 e:=λm c E _ x=>match x with
  |.Call (.Name f _) [a,.Name t _] [] _=>if f == "isinstance" && c.sc.names.lookup f == some .globalImplicit&&c.sc.names.lookup t == some .globalImplicit&&m.gk.elem f&&m.gk.elem t && !(isStar a)then(By t).map λT=>rN T (E a)else none
  |_=>none
 sD:=by
  intro m c X E g hE rf x f h
  split at h
  . rename_i f' p a t p2 pos
    split at h
    . rename_i hh
      simp only[Bool.and_eq_true,beq_iff_eq,Bool.not_eq_true']at hh
      obtain⟨⟨⟨⟨⟨h1,h2⟩,h3⟩,h4⟩,h5⟩,h6⟩:=hh
      obtain⟨T,hT,h⟩:=Option.map_eq_some_iff.mp h
      subst h
      have e:=E6 hT
      subst h1
      subst e
      exact H_ T (g.bl _ (List.elem_iff.mp h4)) (g.bl _ (List.elem_iff.mp h5)) (hE a) (g.gl h2) (g.gl h3) (bq h6)
    . cases h
  . cases h
 t:=CZ
 tok:=by intro m c X E g hE x f h;cases h
theorem Bz {X:Cx}{pins:List (Addr×Obj)}{σ:L2.St}{H:Hp}{s:Shared}{ι:Ix}{g:G}{d:D}{x:V}{v:Value}(I:Inv X pins σ H s)(G0:ak X.kw H ι g)(r:Rel X.kw H ι d x)(rv:RelV x v)(h:ny d=true):
  s.TypeIs v "list" /\ ∀a,v = .ref a->∃ob,s.heap.get? a=some ob/\ob.dict=none:=by
 cases d with
 |lst xs =>
  simp only[Rel]at r
  obtain⟨a,vs,rfl,hq,hr⟩:=r
  exact qJ I rv (.inl ⟨rfl,vs,hq.sq⟩)
 |_=>cases h
theorem BA {X:Cx}:MR X "list" "index" "list.index" ny sU where
 pa:=PySem.F.plainAttrs_list
 slot:=PySem.F.slot_list_index
 ty:=PySem.F.type_list_index
 is:=Bz
 run:=by
  intro pins s σ H x xs v us Q I rx rs q
  obtain⟨ι,g,d,ds,d',g',G0,r1,rl,hT,q,p⟩:=q
  cases d with
  |lst ys =>
   match ds,q,rl with
   | [y],q,rl =>
    simp only[sU]at q
    split at q
    . rename_i hz
      simp only[Bool.and_eq_true]at hz
      obtain⟨j,hj,q⟩:=Option.map_eq_some_iff.mp q
      cases q
      simp only[Rel]at r1
      obtain⟨a,vs,rfl,hq,hr⟩:=r1
      simp only[ae]at rl
      obtain⟨w,_,rfl,rw_,rfl⟩:=rl
      obtain⟨e1,_⟩:=e_ hz.1 rw_
      obtain⟨e2,_⟩:=jr hz.2 hr
      subst e1 e2
      exact yQ pins s σ H _ _ v us Q I rx rs ⟨a,ys,y,j,rfl,hq.sq,rfl,hz.1,hz.2,hj,p H ι _ Ext.refl G0 (by simp[Rel])⟩
    . cases q
   | [],q,_=>cases q
   |_::_::_,q,_=>cases q
  |_=>cases hT
noncomputable def E_:nc:=⟨"index",ny,sU,λ_=>⟨_,_,BA⟩⟩
noncomputable def zp (d:bo):Bool :=
 decide ((aS d.st).kind = .function) && !(aS d.st).isCoroutine && !(aS d.st).isGenerator&&vp d.N&&decide (d.N.take d.ps.length=d.ps) &&
 d.ps.all (λx=>(aS d.st).names.lookup x == some .local||(aS d.st).names.lookup x == some .cell)&&(aS d.st).names.all (λy=>!(y.2 == .free))
noncomputable def vx (ds:List bo):Bool:=ds.all zp
theorem zq {ds:List bo}(h:vx ds=true):∀d∈ds,gu d.N d.ps (aS d.st):=λd hd=>by
 have:=List.all_eq_true.mp h d hd
 simp only[zp,Bool.and_eq_true,decide_eq_true_eq,Bool.not_eq_true',List.all_eq_true,Bool.or_eq_true,beq_iff_eq]at this
 obtain⟨⟨⟨⟨⟨⟨h1,h2⟩,h3⟩,h4⟩,h5⟩,h6⟩,h7⟩:=this
 exact⟨h1,h2,h3,sG h4,h5,h6,λy hy e=>by have:=h7 y hy;rw[e]at this;simp at this⟩
def At (K:PySem.W.Frag)(w:World)(mg:Str->Option Value)(M:Mo):Prop:=∃fs eK,bD K M.ds fs eK/\(∀y∈M.gk,PySem.W.nsIn K mainGlobals y=some none) /\
 (∀y e,(y,e)∈M.si->∃v u,PySem.W.nsIn K mainGlobals y=some (some u)/\RelV v u /\ ∀K H ι,Rel K H ι e v) /\
 (∀y t,(y,t)∈M.sj->∃a,PySem.W.nsIn K mainGlobals y=some (some (.ref a))/\bU w ⟨K,w,mg⟩ a t)
theorem Fb {l:PySem.W.OpenLaw}{q:Program}{loose:List Str}{XP:(Str->Option Value)->Heap->Prop}{YP:World->Heap->Prop}{d:DefRec}{K:Params->PySem.W.Frag}{M:Mo}{T:Nat->Nat->Fn}{i R:Nat}{dt:bo}{x:Str}(hn:l.most=some 63)(hr:b9 R callerA)(qM:d.params.defaults = [])(Jb:d.name = "law")
  (hY:∀(w:World) (h:Heap),YP w h->(K w.params).In h)
  (F:∀(w:World) (mg:Str->Option Value) (h:Heap),(K w.params).In h->h.Ns mainGlobals mg->At (K w.params) w mg M)
  (hd:M.ds[i]? = some dt) (hx:dt.ps = [x]) (IM:dt.nm = "law") (gd:Good M T)
  (spec:∀ns:List Int,ns.length<=63->∃g',T R i [.lst (ns.map .int)] []=some (.bl true,g')):
  PySem.W.WalkO q loose XP YP l.row.toRowW d [] (λf vs=>PySem.call f vs):=
 L2.D0 (n:=63) (k:=R) (x:=x) (CX:=λ_=>gh) (sp:=λw=>wY (K w.params)) hn (by decide) qM hr hY
  (λw mg fa h KX G CT=>by
   obtain⟨fs,eK,L,B,C,Dc⟩:=F w mg h KX G
   rw[Jb]at CT
   exact whole KX G hd hx IM CT gd L B C Dc spec)
  (λ_ _ a ns hl _ hS=>⟨a,ns,rfl,hS,hl,λ_=>rfl⟩) λ_ _ _ _ _ z=>z
section
variable {α β:Type}{P:α->Prop}{Q:α->β->Prop}
theorem bn:∀y∈([]:List α),P y:=λy h=>by simp at h
theorem bc {x:α}{l:List α}(h:P x)(r:∀y∈l,P y):∀y∈x::l,P y:=λy z=>by
 rcases List.mem_cons.mp z with rfl|z
 . exact h
 . exact r y z
theorem Mx:∀y e,(y,e)∈([]:List (α×β))->Q y e:=λy e h=>by simp at h
theorem cc {x:α}{d:β}{l:List (α×β)}(h:Q x d)(r:∀y e,(y,e)∈l->Q y e):∀y e,(y,e)∈(x,d)::l->Q y e:=λy e z=>by
 rcases List.mem_cons.mp z with z|z
 . cases z;exact h
 . exact r y e z
end
noncomputable def km (m:G0)(c:Cs)(x:Str):Option (List (Str×D)):=if iT x then none else if c.sc.names.lookup x=some .globalImplicit then m.sj.lookup x else none
theorem gz {m:G0}{c:Cs}{X:Cx}(g:Gd m c X){x:Str}{t:List (Str×D)}(h:km m c x=some t):(x == ("__debug__":Str))=false/\Gl X x /\ ∃a,X.mg x=some (.ref a)/\bU X.w X.kw a t:=by
 unfold km at h
 split at h
 . cases h
 . rename_i ho
   split at h
   . rename_i hg
     exact⟨(sC (by simpa using ho)).1,g.gl hg,g.dc x t (lookup_mem h)⟩
   . cases h
noncomputable def Ln:jA where
 e:=λm c E _ x=>match x with
  |.Subscript (.Name C _) k _=>if m8 k then none else(km m c C).map λt=>wH t (E k)
  |_=>none
 sD:=by
  intro m c X E g hE rf x f h
  split at h
  . split at h
    . cases h
    . rename_i hs
      obtain⟨t,ht,rfl⟩:=Option.map_eq_some_iff.mp h
      obtain⟨h1,h2,a,h3,h4⟩:=gz g ht
      exact EJ h4 h3 (hE _) h2 (og (by simpa using hs)) h1
  . cases h
 t:=CZ
 tok:=by intro m c X E g hE x f h;cases h
noncomputable def Lo:jA where
 e:=λm c E _ x=>match x with
  |.Call (.Attribute (.Subscript (.Name C _) k _) nm ap) [y] [] pos=>if !(nm == "index")||m8 k||isStar y || !(ap.endLine == pos.line)then none else(km m c C).map λt=>pZ t (E k) (E y)
  |_=>none
 sD:=by
  intro m c X E g hE rf x f h
  split at h
  . rename_i C p k q nm ap y pos
    split at h
    . cases h
    . rename_i hs
      simp only[Bool.or_eq_true,not_or,Bool.not_eq_true',Bool.not_eq_false,Bool.not_eq_true]at hs
      obtain⟨⟨⟨s1,s2⟩,s3⟩,s4⟩:=hs
      have s1:=eq_of_beq s1
      subst s1
      obtain⟨t,ht,rfl⟩:=Option.map_eq_some_iff.mp h
      obtain⟨h1,h2,a,h3,h4⟩:=gz g ht
      refine EK h4 h3 (hE _) (hE _) h2 (og s2) h1 (baseOk rfl) ?_ s4 (bq s3)
      rw[sA (by rw[List.any_cons,s3];rfl)]
      rfl
  . cases h
 t:=CZ
 tok:=by intro m c X E g hE x f h;cases h
noncomputable def Of:jA where
 e:=λm c E _ x=>match x with
  |.Compare k [.In] [.Name C _] _=>(km m c C).map λt=>kJ t (E k)
  |.Compare k [.NotIn] [.Name C _] _=>(km m c C).map λt=>fg t (E k)
  |_=>none
 sD:=by
  intro m c X E g hE rf x f h
  split at h
  . obtain⟨t,ht,rfl⟩:=Option.map_eq_some_iff.mp h
    obtain⟨h1,h2,a,h3,h4⟩:=gz g ht
    exact EL h4 h3 (hE _) h2 h1 (marks rfl)
  . obtain⟨t,ht,rfl⟩:=Option.map_eq_some_iff.mp h
    obtain⟨h1,h2,a,h3,h4⟩:=gz g ht
    exact wJ h4 h3 (hE _) h2 h1 (marks rfl)
  . cases h
 t:=λm c E x=>match x with
  |.Compare k [.In] [.Name C _] _=>(km m c C).map λt=>ay (kJ t (E k))
  |.Compare k [.NotIn] [.Name C _] _=>(km m c C).map λt=>ay (fg t (E k))
  |_=>none
 tok:=by
  intro m c X E g hE x f h
  split at h
  . obtain⟨t,ht,rfl⟩:=Option.map_eq_some_iff.mp h
    obtain⟨h1,h2,a,h3,h4⟩:=gz g ht
    exact EM h4 h3 (hE _) h2 h1 (marks rfl)
  . obtain⟨t,ht,rfl⟩:=Option.map_eq_some_iff.mp h
    obtain⟨h1,h2,a,h3,h4⟩:=gz g ht
    exact wK h4 h3 (hE _) h2 h1 (marks rfl)
  . cases h
noncomputable def dA (d:D)(ds:List D)(g:G):Option (D×G):=match d,ds with
 |.ref n,[e]=>(g[n]?).bind λxs=>(eJ e g).bind λzs=>if aC (xs.length+zs.length)=true then some (.ao,g.set n (xs++zs))else none
 |_,_=>none
theorem zt {X:Cx}:MR X "list" "extend" "list.extend" isRef dA where
 pa:=PySem.F.plainAttrs_list
 slot:=PySem.F.slot_list_extend
 ty:=PySem.F.type_list_extend
 is:=sT
 run:=by
  intro pins s σ H x xs v us Q I rx rs q
  obtain⟨ι,g,d,ds,d',g',G0,r1,rl,hT,q,p⟩:=q
  unfold dA at q
  split at q
  . rename_i n e
    obtain⟨ys,hx,q⟩:=bind_some q
    obtain⟨zs,Rm,q⟩:=bind_some q
    split at q
    . rename_i hz
      cases q
      simp only[Rel]at r1
      obtain⟨a,rfl,ha⟩:=r1
      simp only[ae]at rl
      obtain⟨w0,_,rfl,r0,rfl⟩:=rl
      obtain⟨ws,hw,hr⟩:=G0.at hx ha
      obtain⟨b,vs,rfl,hq,jK⟩:=gQ G0 r0 Rm
      have:=aC.le hz
      refine wI pins s σ H _ _ v us Q I rx rs ⟨a,b,ws,vs,rfl,rfl,hw,hq,by rw[<- hr.length,<- jK.length];omega,?_⟩
      exact p _ ι _ (Ext.put ha hw) (G0.put ha hw (ae.append hr jK)) (by simp[Rel])
    . cases q
  . cases q
noncomputable def BB:nc:=⟨"extend",isRef,dA,λ_=>⟨_,_,zt⟩⟩
end RI
namespace PySem
namespace F
theorem dQ:entryFor table "dict.update.loop" = some Builtin.«dict.update.loop»:=entryFor_of_tree (by kernel_rfl)
theorem bV:plainId "dict.update.loop" = true:=by decide +kernel
end F
theorem sV:typeLookup (.type "list") "keys" = pure none:=by rw[typeLookup_type,builtinLookup_eq_fast];kernel_rfl
theorem sW {prog:Program}{w:World}{A:Around}{E:Value->Shared->Prop}{s:Shared}{a:Addr}{o:Obj}{xs:Array Value}{k:Nat}{Q:Option Value->Shared->Prop}
  (hx:s.heap.get? a=some o) (hc:o.cls = .type "list") (Jc:o.data = .seq xs k) (hd:o.dict=none) (hA:A.handled=none)
  (h:∀h' tk,(∀b ob,s.heap.get? b=some ob->h'.get? b=some ob)->Q none { s with heap:=h',toks:=tk }):
  wpAny (model prog w) A (getAttr? (.ref a) "keys") Q E s:=by
 obtain⟨c,aI,dat,sl⟩:=o
 simp only at hc Jc hd
 subst hc Jc hd
 obtain⟨hp,g,d,tk,os⟩:=s
 have hT:∀oT,(⟨hp,g,d,oT,os⟩:Shared).TypeIs (.ref a) "list":=λ_=>⟨_,hx,rfl⟩
 have f1:=sub_AttributeError
 have f3:=F.slot_list_getattribute.lookup
 have f4:=F.slot_list_getattribute.bind (.ref a)
 have f5:=am_list_getattr_none
 unfold getAttr? getAttrBy? getAttrBy
 repeat (any_goals (first|assumption|exact hT _| ((with_reducible show wpAny _ _ (call (Value.builtin "list.__getattribute__") _ _) _ _ _);refine call_meets F.slot_list_getattribute (hT _) am_entry_list_getattribute (F.args_list_getattribute_2 _ _) (meets_getattribute_miss_list a xs k sl "keys" _ sV (by decide) (by size_fits)) ⟨hx,hA,λh' oT e uv=>?_⟩)|wp_step))
 obtain⟨t',u',he⟩:=uv.there
 show wpAny _ _ (getattributeRaised _ _ _ _ _ _ _) _ _ _
 unfold getattributeRaised
 repeat (any_goals (first|assumption|wp_step))
 exact h _ _ uv.keeps
end PySem
namespace L3
open PySem PySem.Spec PyProof.Rows L2 SeqAt DK
noncomputable def w6:D->Option (D×D)
 |.tup [k,v]=>some (k,v)
 |_=>none
noncomputable def gr:List D->Option (List (D×D))
 | []=>some []
 |d::ds=>(w6 d).bind λp=>(gr ds).map λr=>p::r
noncomputable def jB:Fn:=λds g=>match ds with
 | [.lst ps]=>(gr ps).bind λqs=>(putAll g.length qs (g ++ [[]])).map λg'=>(.aI g.length,g')
 |_=>none
section
variable {X:Cx}{pins:List (Addr×Obj)}{σ:L2.St}
theorem sX {A:Around}{E:Value->Shared->Prop}{P:Shared->Prop}(hu:A.units+32<cLine)(hh:A.handled=none){a l it:Addr}{n:Nat}{ps:List D}{vs:List V}:∀(qs:List (D×D)) (i:Nat) {s:Shared} {H:Hp} {ι:Ix} {g g':G},Inv X pins σ H s->ak X.kw H ι g->cj ι n a true->hZ X.kw H ι l vs->ae X.kw H ι ps vs->gr (ps.drop i)=some qs->putAll n qs g=some g' ->
  s.heap.IsListIter it l i->eT X pins H it ->
  (∀s' H',Inv X pins σ H' s'->Ext H ι H' ι->ak X.kw H' ι g'->P s') ->
  codeAny (model X.prog X.w) A (.builtin "dict.update.loop" ⟨[.ref a,.ref it,.int i 0,.none],[]⟩) (wants (λr s₂=>r = .none/\P s₂) E) s
 | [],i,s,H,ι,g,g',I,G0,ha,hq,hr,h,hg,hit,hf,p=>by
  cases hg
  have hd:ps.drop i = []:=by
    cases e:ps.drop i with
    |nil=>rfl
    |cons x r=>rw[e]at h;simp only[gr]at h;obtain⟨_,_,h⟩:=bind_some h;obtain⟨_,_,h⟩:=Option.map_eq_some_iff.mp h;cases h
  obtain⟨ah,aN,pl,hz⟩:=I.list hq.sq
  have hlen:ah.length<=i:=by rw[<- aN.length,<- hr.length];exact List.drop_eq_nil_iff.mp hd
  refine codeAny_builtin F.dQ ?_
  rw[Around.under_plainId F.bV _]
  show wpAny _ A.in1 (pyNext (.ref it) >>= _) _ _ s
  refine wpAny_bind (wpAny_pyNext_list_end hh hit pl.isList (by simp;omega) λh' hx=>?_)
  show wpAny _ A.in1 (Builtin.Dict.addKeywords a [] >>= _) _ _ _
  exact wpAny_bind (wpAny_pure (wpAny_pure ⟨rfl,p _ H (I.turned (t':=s.toks) (λb o hb q=>hx b o hb q) hf.1 hf.2.1 hf.2.2.2.1 hf.2.2.2.2.1 hf.2.2.2.2.2) Ext.refl G0⟩))
 | (k,v)::qs,i,s,H,ι,g,g',I,G0,ha,hq,hr,h,hg,hit,hf,p=>by
  obtain⟨x,r,hd,C0,Rn⟩:∃x r,ps.drop i=x::r/\w6 x=some (k,v)/\gr r=some qs:=by
    cases e:ps.drop i with
    |nil=>rw[e]at h;simp[gr]at h
    |cons x r =>
      rw[e]at h;simp only[gr]at h
      obtain⟨p0,h1,h⟩:=bind_some h
      obtain⟨r0,h2,h⟩:=Option.map_eq_some_iff.mp h
      cases h
      exact⟨x,r,rfl,h1,h2⟩
  have hi:ps[i]? = some x:=by
    have:=congrArg (λl=>l[0]?) hd
    simpa using this
  have Jd:ps.drop (i+1)=r:=by
    have:=congrArg List.tail hd
    simpa using this
  have hx:x = .tup [k,v]:=by
    unfold w6 at C0
    split at C0
    . cases C0;rfl
    . cases C0
  subst hx
  obtain⟨ah,aN,pl,hz⟩:=I.list hq.sq
  obtain⟨w,hw,rw_⟩:=hr.get hi
  obtain⟨u,Ro,ru⟩:=aN.get hw
  simp only[Rel]at rw_
  obtain⟨b,us,rfl,Rp,My⟩:=rw_
  cases ru
  simp only[ae]at My
  obtain⟨kv,_,rfl,rk,vv,_,rfl,rv,rfl⟩:=My
  refine codeAny_builtin F.dQ ?_
  rw[Around.under_plainId F.bV _]
  show wpAny _ A.in1 (pyNext (.ref it) >>= _) _ _ s
  refine wpAny_bind (wpAny_pyNext_list_item hit pl.isList (by simpa using Ro) λh' n_ sb=>?_)
  have I1:Inv X pins σ H { s with heap:=h' }:=I.turned (t':=s.toks) (λb o hb e=>sb.extBut b o hb e) hf.1 hf.2.1 hf.2.2.2.1 hf.2.2.2.2.1 hf.2.2.2.2.2
  obtain⟨eB,Lp,⟨o,h1,h2,m,h3⟩,_⟩:=I1.tuple Rp.sq
  obtain⟨ku,vu,rfl,Je,Jf⟩:∃ku vu,eB = [ku,vu]/\RelV kv ku/\RelV vv vu:=by
    cases Lp with
    |cons a1 r1=>cases r1 with
      |cons a2 r2=>cases r2;exact⟨_,_,rfl,a1,a2⟩
  show wpAny _ A.in1 (holding [.ref b] _ >>= _) _ _ _
  refine wpAny_bind (wpAny_holding ?_)
  refine wpAny_bind (wpAny_tryCatch ?_)
  unfold Builtin.Dict.pairItems
  refine wpAny_bind (wpAny_typeOf ⟨o,h1,h2⟩ ?_)
  rw[if_pos (by decide)]
  refine wpAny_bind (wpAny_seqItems h1 h3 (wpAny_pure ?_))
  simp only[putAll]at hg
  obtain⟨g1,vy,hg⟩:=bind_some hg
  simp only[gV]at vy
  obtain⟨xs,rC,vy⟩:=bind_some vy
  split at vy
  . rename_i hk
    simp only[Bool.and_eq_true]at hk
    cases vy
    obtain⟨es,QR,c,hH,mX,eP,pd,pz,nd,sy,sz,rl⟩:=G0.iJ rC ha
    have en:=Ent.of pd pz rl
    have Jg:=aC.le hk.2
    rw[n9 en]at Jg
    refine wpAny_holding ?_
    refine pb I1 (by rw[in1_units];omega) hH eP sz en nd hk.1 rk Je rv Jf λtk L_ aW e1 e2 e3 e0 e4 e5=>?_
    refine wpAny_pure ⟨plainId_quiet F.bV _,?_⟩
    have x1:Ext H ι (upd H a (dO a aW c)) ι:=Ext.put ha hH
    have cY:it≠a:=λz=>by rw[z]at hf;rw[hf.1]at hH;cases hH
    have:=sX (P:=P) hu hh qs (i+1) (me (tk:=tk) I1 hH e4 e5) (mf G0 ha mX hH e1 e2 sy e0 (by omega)) ha (hq.ext x1) (ae.ext x1 _ hr) (by rw[Jd];exact Rn) hg (n_.at λo q=>by rw[e5.2 it cY];exact q) ⟨by rw[aL cY];exact hf.1,hf.2⟩ (E:=E) λs' H' I' x' G'=>p s' H' I' (x1.trans x') G'
    exact this
  . cases vy
theorem Fc {k:Nat}(hr:b9 k X.A):bS X (.type "dict") (h_ X.kw jB):=by
 intro pins s σ H xs us Q I r q
 obtain⟨ι,g,ds,d,g',G0,r1,q,p⟩:=q
 unfold jB at q
 split at q
 . rename_i ps
   obtain⟨qs,Iy,q⟩:=bind_some q
   obtain⟨g2,yi,q⟩:=Option.map_eq_some_iff.mp q
   cases q
   simp only[ae]at r1
   obtain⟨v,_,rfl,rv,rfl⟩:=r1
   simp only[Rel]at rv
   obtain⟨l,vs,rfl,hq,Rq⟩:=rv
   obtain⟨u,rfl,ru⟩:=vals1 r
   cases ru
   have hf:H s.heap.objs.size=none:=I.aV.fresh (Nat.le_refl _)
   have zu:∀h:Heap,(h.push { cls:=.type "dict",data:=.dict #[] }).get? h.objs.size=some { cls:=.type "dict",data:=.dict #[] }:=λh=>Heap.get?_push_size _ rfl
   have I1:Inv X pins σ (upd H s.heap.objs.size (dO s.heap.objs.size [] 0)) { s with heap:=s.heap.push { cls:=.type "dict",data:=.dict #[] } }:=I.laid (t':=s.toks) (λb u e=>Heap.get?_push_of_some _ e) (Nat.le_refl _) ⟨zu _,⟨_,zu _⟩,λh1 h2 q k=>k _ q⟩
   have x1:Ext H ι (upd H s.heap.objs.size (dO s.heap.objs.size [] 0)) (ι.more s.heap.objs.size 1):=Ext.fG (b:=1) hf
   have G1:ak X.kw (upd H s.heap.objs.size (dO s.heap.objs.size [] 0)) (ι.more s.heap.objs.size 1) (g ++ [[]]):=G0.fG hf (.d 0 [] [] (Nat.zero_le _) .nil .nil (by simp[aJ]) (beq_eq_false_iff_ne.mpr (Ne.symm (Nat.ne_of_lt (big I)))) (Nat.zero_le _)) (by simp[ae])
   have C1:cj (ι.more s.heap.objs.size 1) g.length s.heap.objs.size true:=cj.new G0.len
   refine callType_codes (Q₁:=λobj s₁=>obj = .ref s.heap.objs.size/\s₁={ s with heap:=s.heap.push { cls:=.type "dict",data:=.dict #[] } }) F.kt_called_dict (F.kt_typeCall_dict_1 _) F.entry_dict_init (kt_code_dict_new _ ⟨rfl,rfl⟩) ?_
   rintro obj s₁ ⟨rfl,rfl⟩
   have hT:Shared.TypeIs { s with heap:=s.heap.push { cls:=.type "dict",data:=.dict #[] } } (.ref s.heap.objs.size) "dict":=⟨_,zu _,rfl⟩
   refine⟨hT,F.args_dict_init_2 _ _,?_⟩
   unfold Builtin.«dict.__init__»
   refine wpAny_bind ?_
   unfold Builtin.Dict.selfAndRest
   refine wpAny_bind (wpAny_notOrdered_dict hT ?_)
   show wpAny _ _ (pure (s.heap.objs.size,[Value.ref l])) _ _ _
   refine wpAny_pure ?_
   show wpAny _ _ (Builtin.Dict.updateFrom "dict.__init__" s.heap.objs.size (.ref l) [] .none) _ _ _
   unfold Builtin.Dict.updateFrom
   have kn:=hq.ext x1
   obtain⟨ah,aN,pl,hz⟩:=I1.list kn.sq
   obtain⟨o,m,h1,h2,h3,h4⟩:=id pl
   refine wpAny_bind (wpAny_typeOf ⟨o,h1,h2⟩ ?_)
   rw[if_pos (by decide)]
   refine wpAny_bind (sW (A:=X.A.in1.in1) h1 h2 h4 h3 (by simp[hr.hd]) λh' tk hk=>?_)
   rw[if_pos (by rfl)]
   have I2:Inv X pins σ (upd H s.heap.objs.size (dO s.heap.objs.size [] 0)) { s with heap:=h',toks:=tk }:=I1.kept (t':=tk) hk
   refine wpAny_bind (wpAny_rule (wpAny_bind (wpAny_pyIter_list (pl.keeps hk).isList ?_)))
   have I3:Inv X pins σ (upd H s.heap.objs.size (dO s.heap.objs.size [] 0)) { s with heap:=h'.push { cls:=.type "list_iterator",data:=.fields #[.ref l,.int 0 0] },toks:=tk }:=I2.kept (t':=tk) λb u e=>Heap.get?_push_of_some _ e
   refine wpAny_pure ⟨plainId_quiet F.bV _,?_⟩
   refine sX (A:=X.A.in1) (by rw[in1_units];have:=hr.units;omega) (by simp[hr.hd]) qs 0 I3 G1 C1 kn (ae.ext x1 _ Rq) Iy yi ⟨_,Heap.get?_push_size _ rfl,rfl,rfl⟩ (I2.qy (Nat.le_refl _) (I2.aV.fresh (Nat.le_refl _))) λs' H' I' x' G'=>?_
   refine⟨.ref s.heap.objs.size,H',I',rfl,p H' _ _ (x1.trans x') G' ?_⟩
   simp only[Rel]
   exact⟨_,rfl,C1⟩
 . cases q
end
end L3
namespace HX
open PySem
theorem Jh (y:Nat)(h:y<18446744073709551616):(y*11400714785074694791 % 18446744073709551616)*614540362697595703 % 18446744073709551616=y:=by
 have:(y*11400714785074694791 % 18446744073709551616)*614540362697595703 % 18446744073709551616=(y*11400714785074694791*614540362697595703) % 18446744073709551616:=by
  rw[Nat.mod_mul_mod]
 rw[this,Nat.mul_assoc]
 have e:11400714785074694791*614540362697595703=1+18446744073709551616*(11400714785074694791*614540362697595703 / 18446744073709551616):=by decide +kernel
 rw[e,Nat.mul_add,Nat.mul_one,<- Nat.mul_assoc,Nat.mul_comm y,Nat.mul_assoc,Nat.add_mul_mod_self_left,Nat.mod_eq_of_lt h]
noncomputable def rl (x:Nat):Nat:=(x*2147483648) % 18446744073709551616+x / 8589934592
theorem Lq (x:Nat)(h:x<18446744073709551616):rl x<18446744073709551616:=by unfold rl;omega
theorem Nat.ko {a b c:Nat}(h:b<c):(a*c+b) % c=b:=by rw[Nat.mul_add_mod_of_lt h]
theorem Nat.kq {a b c:Nat}(h:b<c):(a*c+b) / c=a:=by
 rw[Nat.mul_comm,Nat.mul_add_div (by omega),Nat.div_eq_of_lt h,Nat.add_zero]
theorem Ji (x:Nat)(h:x<18446744073709551616):rl x % 2147483648*8589934592+rl x / 2147483648=x:=by
 have e:rl x=x % 8589934592*2147483648+x / 8589934592:=by
  unfold rl
  have:x*2147483648 % 18446744073709551616=x % 8589934592*2147483648:=by
   rw[show(18446744073709551616:Nat)=8589934592*2147483648 by decide,Nat.mul_mod_mul_right]
  rw[this]
 have q:x / 8589934592<2147483648:=by omega
 rw[e,Nat.ko q,Nat.kq q]
 omega
noncomputable def gx (w:Nat):Nat:=let y:=((w+18446744073709551616-2870177450013471924) % 18446744073709551616)*614540362697595703 % 18446744073709551616;y % 2147483648*8589934592+y / 2147483648
noncomputable def ww (x:Nat):Nat:=(rl x*11400714785074694791 % 18446744073709551616+2870177450013471924) % 18446744073709551616
theorem C2 (x:Nat)(h:x<18446744073709551616):gx (ww x)=x:=by
 unfold gx ww
 have h1:=Lq x h
 have e:((rl x*11400714785074694791 % 18446744073709551616+2870177450013471924) % 18446744073709551616+18446744073709551616-2870177450013471924) % 18446744073709551616=rl x*11400714785074694791 % 18446744073709551616:=by
  have:rl x*11400714785074694791 % 18446744073709551616<18446744073709551616:=Nat.mod_lt _ (by decide)
  omega
 dsimp only
 rw[e,Jh _ h1]
 exact Ji x h
noncomputable def out (w:Nat):Int:=if(w == 18446744073709551616-1)=true then 1546275796 else if w<9223372036854775808 then(w:Int)else(w:Int)-18446744073709551616
theorem Mz:gx 18446744073709551615=9148689060682678900:=by decide +kernel
theorem MA:gx 1546275796=15881292906973731817:=by decide +kernel
theorem Jj {w v:Nat}(hw:w<18446744073709551616)(hv:v<18446744073709551616)(h:out w=out v):w=v\/(w=18446744073709551615/\v=1546275796)\/(v=18446744073709551615/\w=1546275796):=by
 unfold out at h
 simp only[beq_iff_eq]at h
 split at h<;>split at h<;>(try split at h)<;>(try split at h)<;>omega
theorem Og {A i j:Nat}(hi:i<=4)(hj:j<=4)(hn:i≠j):(A+i*14029467366897019727) % 18446744073709551616≠(A+j*14029467366897019727) % 18446744073709551616:=by
 have e1:i=0\/i=1\/i=2\/i=3\/i=4:=by omega
 have e2:j=0\/j=1\/j=2\/j=3\/j=4:=by omega
 rcases e1 with rfl|rfl|rfl|rfl|rfl<;>rcases e2 with rfl|rfl|rfl|rfl|rfl<;>first|exact absurd rfl hn| (intro h;omega)
theorem vz {A c L:Nat}(h:(A+c) % 18446744073709551616=L):A % 18446744073709551616=(L+(18446744073709551616-c % 18446744073709551616)) % 18446744073709551616:=by omega
theorem Oh:∀i<5,∀j<5,(9148689060682678900+(18446744073709551616-i*14029467366897019727 % 18446744073709551616)) % 18446744073709551616≠(15881292906973731817+(18446744073709551616-j*14029467366897019727 % 18446744073709551616)) % 18446744073709551616:=by decide +kernel
theorem Jk {A i j:Nat}(hi:i<=4)(hj:j<=4)(h1:(A+i*14029467366897019727) % 18446744073709551616=9148689060682678900)(h2:(A+j*14029467366897019727) % 18446744073709551616=15881292906973731817):False:=by
 have a1:=vz h1
 have a2:=vz h2
 rw[a1]at a2
 exact Oh i (Nat.lt_succ_of_le hi) j (Nat.lt_succ_of_le hj) a2
theorem sep {A:Nat}{i j:Nat}(hi:i<=4)(hj:j<=4)(hn:i≠j):out (ww ((A+i*14029467366897019727) % 18446744073709551616))≠out (ww ((A+j*14029467366897019727) % 18446744073709551616)):=λh=>by
 have l1:(A+i*14029467366897019727) % 18446744073709551616<18446744073709551616:=Nat.mod_lt _ (by decide)
 have l2:(A+j*14029467366897019727) % 18446744073709551616<18446744073709551616:=Nat.mod_lt _ (by decide)
 have g1:=C2 _ l1
 have g2:=C2 _ l2
 rcases Jj (by unfold ww;exact Nat.mod_lt _ (by decide)) (by unfold ww;exact Nat.mod_lt _ (by decide)) h with e|⟨e1,e2⟩|⟨e1,e2⟩
 . rw[e,g2]at g1
   exact Og hi hj hn g1.symm
 . rw[e1,Mz]at g1
   rw[e2,MA]at g2
   exact Jk hi hj g1.symm g2.symm
 . rw[e1,Mz]at g2
   rw[e2,MA]at g1
   exact Jk hj hi g2.symm g1.symm
end HX
set_option maxRecDepth 10000
namespace HX
open PySem
theorem Jl {α β:Type}(f:α->β->α)(i:α)(a b:β):List.foldl f i [a,b]=f (f i a) b:=rfl
theorem Rr:(2:Nat) ^ 31=2147483648:=by decide
theorem Rt:(2:Nat) ^ 33=8589934592:=by decide
theorem Ru:(2:Nat) ^ 63=9223372036854775808:=by decide
theorem Rv:(2:Nat) ^ 64=18446744073709551616:=by decide
theorem ex:((2:Nat) ^^^ (2870177450012600261 ^^^ 3527539))=2870177450013471924:=by decide +kernel
theorem el (a b:Int):[a,b].length=2:=rfl
theorem ec:((18446744073709551616:Nat):Int)=18446744073709551616:=rfl
theorem u0 (a b:Int)(k:Int->Prop)(h:∀w,w=ww ((rl ((2870177450012600261+(a % ((18446744073709551616:Nat):Int)).toNat*14029467366897019727) % 18446744073709551616)*11400714785074694791 % 18446744073709551616+(b % ((18446744073709551616:Nat):Int)).toNat*14029467366897019727) % 18446744073709551616)->k (out w)):k (Builtin.Tuple.tupleHashOf [a,b]):=by
 delta Builtin.Tuple.tupleHashOf
 extract_lets m p1 p2 p5 acc w
 have hw:w=(acc+([a,b].length ^^^ (p5 ^^^ 3527539))) % m:=rfl
 have ha:acc=List.foldl _ p5 [a,b]:=rfl
 have hm:m=2 ^ 64:=rfl
 have h1:p1=11400714785074694791:=rfl
 have h2:p2=14029467366897019727:=rfl
 have h5:p5=2870177450012600261:=rfl
 clear_value w acc p5 p2 p1 m
 rw[Jl]at ha
 rw[Rv]at hm
 rw[el]at hw
 rw[Ru]
 have ha:acc=rl ((rl ((p5+(a % (m:Int)).toNat*p2) % m)*p1 % m+(b % (m:Int)).toNat*p2) % m)*p1 % m:=by
  subst hm
  unfold rl
  rw[<- Rr,<- Rt]
  exact ha
 have q:=h w (by subst hm h1 h2 h5 ha;rw[ex]at hw;exact hw)
 unfold out at q
 subst hm
 rw[ec]
 exact q
theorem Jm (w:Nat)(h:w<18446744073709551616):reduceHash (out w)=out w:=by
 have hr:-(2 ^ 63:Int)<=out w/\out w<2 ^ 63/\out w ≠ -1:=by
  unfold out
  split
  . decide
  . rename_i hn
    have hn:w≠18446744073709551615:=by simpa using hn
    split<;>omega
 unfold reduceHash
 rw[if_pos (by simp only[Bool.and_eq_true,decide_eq_true_eq];exact⟨hr.1,hr.2.1⟩),if_neg (by simpa using hr.2.2)]
noncomputable def qg (a:Int):Nat:=rl ((2870177450012600261+(a % ((18446744073709551616:Nat):Int)).toNat*14029467366897019727) % 18446744073709551616)*11400714785074694791 % 18446744073709551616
theorem Oi (a:Int)(i:Nat)(hi:i<=4):reduceHash (Builtin.Tuple.tupleHashOf [a,(i:Int)])=out (ww ((qg a+i*14029467366897019727) % 18446744073709551616)):=by
 have e:(((i:Int) % ((18446744073709551616:Nat):Int)).toNat)=i:=by
  rw[Int.emod_eq_of_lt (Int.natCast_nonneg i) (Int.ofNat_lt.mpr (Nat.lt_of_le_of_lt hi (by decide)))]
  exact Int.toNat_natCast i
 generalize hR:out (ww ((qg a+i*14029467366897019727) % 18446744073709551616))=R
 refine u0 a (i:Int) (λz=>reduceHash z=R) λw hw=>?_
 rw[e]at hw
 have:w=ww ((qg a+i*14029467366897019727) % 18446744073709551616):=hw
 rw[<- this]at hR
 rw[<- hR]
 exact Jm _ (by rw[this];unfold ww;exact Nat.mod_lt _ (by decide))
end HX
namespace L3
open PySem PySem.Spec PyProof.Rows L2 SeqAt DK HX
theorem sY (w:World)(s:Str){i:Nat}(hi:i<=4):hD w (.tup [.str s,.int i])=out (ww ((qg (hashStr w s)+i*14029467366897019727) % 18446744073709551616)):=by
 have e:hashInt (i:Int)=i:=by
  have:i=0\/i=1\/i=2\/i=3\/i=4:=by omega
  rcases this with rfl|rfl|rfl|rfl|rfl<;>decide +kernel
 simp only[hD,uT,e]
 exact Oi _ i hi
noncomputable def kO (s:Str):List D->Bool
 |.tup [.str x,.int i]::_::r=>x == s&&decide (0<=i)&&decide (i<=4)&&kO s r
 | []=>true
 |_=>false
noncomputable def w8:List D->Bool
 |.tup [.str x,.int i]::v::r=>kO x (.tup [.str x,.int i]::v::r)
 |_=>false
theorem ij {s:Str}:∀{xs:List D},kO s xs=true->∀k∈aJ xs,∃i:Nat,i<=4/\k = .tup [.str s,.int i]
 | [],_,k,hk=>by simp[aJ]at hk
 |d::r,h,k,hk=>by
  unfold kO at h
  split at h
  . rename_i x i v r' e
    cases e
    simp only[Bool.and_eq_true,beq_iff_eq,decide_eq_true_eq]at h
    obtain⟨⟨⟨rfl,h1⟩,h2⟩,h3⟩:=h
    simp only[aJ,List.mem_cons]at hk
    rcases hk with rfl|hk
    . exact⟨i.toNat,by omega,by rw[Int.toNat_of_nonneg h1]⟩
    . exact ij h3 k hk
  . rename_i e;cases e
  . cases h
theorem Fd {w:World}{s:Str}{xs:List D}(h:kO s xs=true):∀k∈aJ xs,∀k'∈aJ xs,hD w k=hD w k'->k=k':=λk hk k' qZ e=>by
 obtain⟨i,hi,rfl⟩:=ij h k hk
 obtain⟨j,hj,rfl⟩:=ij h k' qZ
 rw[sY w s hi,sY w s hj]at e
 by_cases hn:i=j
 . rw[hn]
 . exact absurd e (sep hi hj hn)
theorem pA {w:World}:∀{xs:List D} {es:List DictEntry},fQ w xs es->(aJ xs).Nodup->(∀k∈aJ xs,∀k'∈aJ xs,hD w k=hD w k'->k=k')->(es.map (·.hash)).Nodup /\ ∀e∈es,∃k∈aJ xs,e.hash=hD w k
 |_,_,.nil,_,_=>by simp
 |_,_,.cons (k:=k) (r:=r) (e:=e) h1 h2 h3,nd,inj=>by
  simp only[aJ,List.nodup_cons]at nd
  obtain⟨i1,i2⟩:=pA h3 nd.2 λa ha b hb=>inj a (by simp[aJ,ha]) b (by simp[aJ,hb])
  refine⟨?_,λx hx=>?_⟩
  . rw[List.map_cons,List.nodup_cons]
    refine⟨λz=>?_,i1⟩
    obtain⟨x,hx,ex⟩:=List.mem_map.mp z
    obtain⟨k',qZ,e'⟩:=i2 x hx
    have:=inj k (by simp[aJ]) k' (by simp[aJ,qZ]) (by rw[<- h2,<- e',ex])
    subst this
    exact nd.1 qZ
  . rcases List.mem_cons.mp hx with rfl|hx
    . exact⟨k,by simp[aJ],h2⟩
    . obtain⟨k',qZ,e'⟩:=i2 x hx
      exact⟨k',by simp[aJ,qZ],e'⟩
theorem BC {es:List DictEntry}(h:(es.map (·.hash)).Nodup)(z:Int):(es.filter λx=>x.hash == z).length<=1:=by
 induction es with
 |nil=>simp
 |cons e es ih =>
  rw[List.map_cons,List.nodup_cons]at h
  have:=ih h.2
  rw[List.filter_cons]
  split
  . rename_i he
    have he:e.hash=z:=by simpa using he
    have:es.filter (λx=>x.hash == z)= []:=by
     rw[List.filter_eq_nil_iff]
     intro x hx q
     have q:x.hash=z:=by simpa using q
     exact h.1 (List.mem_map.mpr ⟨x,hx,by rw[q,he]⟩)
    simp[this]
  . exact this
end L3
namespace L3
open PySem PySem.Spec PyProof.Rows L2
end L3
namespace RI
open PySem PySem.Spec PyProof.Rows L2 L3
noncomputable def Lr:fK:=⟨"dict",jB,λhr _=>.inr ⟨_,Fc hr,boot_dict⟩⟩
end RI
namespace PySem
end PySem
namespace L3
open PySem PySem.Spec PyProof.Rows L2 SeqAt DK
end L3
namespace DK
open PySem PySem.Spec PyProof.Rows L2 L3
theorem zv {prog:Program}{w:World}{A:Around}(hh:A.handled=none)(I d:Addr)(cY:d≠I)(es:Array DictEntry)(ep:Nat):
  Walks prog w A I [I,d] [I] es.size (λi v=>∃e,es[i]? = some e/\v=e.key) (λi h=>h.IsKeyIter I d i es.size ep/\h.get? d=some { cls:=.type "dict",data:=.dict es ep }) where
 sub:=λb hb=>by simp at hb;simp[hb]
 frame:=λ_ _ _ st hk=>⟨st.1.at λo e=>hk I (by simp) o e,hk d (by simp) _ st.2⟩
 item:=λi s Q E hi st hQ=>by
  have he:es[i]? = some es[i]:=by simp[hi]
  refine next_item st.1 st.2 rfl he λh' n_ uS=>?_
  exact hQ _ h' s.toks ⟨_,he,rfl⟩ ⟨n_,uS.extBut d _ cY st.2⟩ λb o hb e=>uS.extBut b o (λh=>hb (by simp[h])) e
 done:=λs Q E st hQ=>next_end hh st.1 st.2 rfl (Nat.le_refl _) λh' Iz=>hQ h' s.toks λb o hb e=>Iz b o (λh=>hb (by simp[h])) e
 self:=λ_ _ _ _ st hQ=>wpAny_pyIter_keyiter st.1 hQ
theorem Fe {prog:Program}{w:World}{d:Addr}{es:Array DictEntry}{ep:Nat}(lo:(d == sysModules)=false):
  PySem.W.KdlSrc prog w "dict" d d es.size (λi v=>∃e,es[i]? = some e/\v=e.key) (λh=>h.get? d=some { cls:=.type "dict",data:=.dict es ep }) where
 type:=λ_ hm=>⟨_,hm,rfl⟩
 there:=λ_ hm=>⟨Heap.lt_size hm,Heap.lt_size hm⟩
 keep:=λ_ _ hm hk=>hk d (.inl rfl) _ hm
 notList:=by decide
 notTuple:=by decide
 hint:=λ_ _ _ _ hm hq=>PySem.W.kdl_hint_dict ⟨_,hm,rfl⟩ hq
 iter:=λ_ _ hh hm=>⟨_,_,(λ_ _ hq=>Bm lo hm hq),zv hh _ d (Nat.ne_of_lt (Heap.lt_size hm)) es ep,⟨⟨_,Heap.get?_push_size _ rfl,rfl,rfl⟩,Heap.get?_push_of_some _ hm⟩⟩
theorem BD {K H ι}{xs:List D}{es:List DictEntry}(en:Ent K H ι xs es):∃ks:List V,Vals ks (es.map (·.key))/\ae K H ι (aJ xs) ks:=by
 induction en with
 |nil=>exact⟨[],.nil,by simp[aJ,ae]⟩
 |cons _ _ rk rv _ _ _ ih =>
  obtain⟨ks,h1,h2⟩:=ih
  exact⟨_::ks,.cons rv h1,by simp only[aJ,ae];exact⟨_,_,rfl,rk,h2⟩⟩
end DK
namespace L3
open PySem PySem.Spec PyProof.Rows L2 SeqAt DK
end L3
namespace L3
open PySem PySem.Spec PyProof.Rows L2
abbrev zw:Ix:=⟨[],[],λ_=>0⟩
theorem iI.i0 {K H ι a xs}(h:iI K H ι a xs):iI K H zw a xs:=by
 rcases h with⟨h,_⟩|h
 . exact .inl ⟨h,by simp⟩
 . exact .inr h
theorem hZ.i0 {K H ι a xs}(h:hZ K H ι a xs):hZ K H zw a xs:=by
 rcases h with⟨h,_⟩|h
 . exact .inl ⟨h,by simp,by simp⟩
 . exact .inr h
mutual
theorem Rel.i0 {K H ι}:∀(d:D) {v:V},flat d=true->Rel K H ι d v->Rel K H zw d v
 |.ao,v,_,h=>by simpa[Rel]using h
 |.bl _,v,_,h=>by simpa[Rel]using h
 |.int _,v,_,h=>by simpa[Rel]using h
 |.str _,v,_,h=>by simpa[Rel]using h
 |.tup xs,v,f,h=>by
  simp only[Rel]at h ⊢
  obtain⟨a,vs,e1,hq,hr⟩:=h
  exact⟨a,vs,e1,hq.i0,ae.i0 xs (by simpa[flat]using f) hr⟩
 |.lst xs,v,f,h=>by
  simp only[Rel]at h ⊢
  obtain⟨a,vs,e1,hq,hr⟩:=h
  exact⟨a,vs,e1,hq.i0,ae.i0 xs (by simpa[flat]using f) hr⟩
 |.bF,v,f,h=>by cases f
 |.ref n,v,f,h=>by cases f
 |.aI n,v,f,h=>by cases f
 |.fn x,v,f,h=>by cases f
theorem ae.i0 {K H ι}:∀(ds:List D) {vs:List V},az ds=true->ae K H ι ds vs->ae K H zw ds vs
 | [],vs,_,h=>by simpa[ae]using h
 |d::ds,vs,f,h=>by
  simp only[az,Bool.and_eq_true]at f
  simp only[ae]at h ⊢
  obtain⟨v,vr,e1,hq,hr⟩:=h
  exact⟨v,vr,e1,Rel.i0 d f.1 hq,ae.i0 ds f.2 hr⟩
end
noncomputable def dr (d:D)(g:G):D:=match d with
 |.ref n=>(match g[n]? with|some xs=>.lst xs|none=>.ref n)
 |d=>d
theorem zy {K H ι g d v}(G0:ak K H ι g)(r:Rel K H ι d v)(f:flat (dr d g)=true):Rel K H zw (dr d g) v:=by
 cases d with
 |ref n =>
  cases hx:g[n]? with
  |none =>
   have e:dr (.ref n) g = .ref n:=by simp only[dr,hx]
   rw[e]at f
   cases f
  |some xs =>
   have e:dr (.ref n) g = .lst xs:=by simp only[dr,hx]
   rw[e]at f ⊢
   simp only[Rel]at r
   obtain⟨a,rfl,ha⟩:=r
   obtain⟨vs,hH,hr⟩:=G0.at hx ha
   simp only[Rel]
   exact⟨a,vs,rfl,.inl ⟨.inl hH,by simp,by simp⟩,ae.i0 xs (by simpa[flat]using f) hr⟩
 |_=>exact Rel.i0 _ f r
noncomputable def kr (d1 d2:D)(g:G):Option (D×G):=if(flat (dr d1 g)&&flat (dr d2 g)&&decide (dep (dr d1 g)<=60))=true then some (.bl (!au (dr d1 g) (dr d2 g)),g)else none
theorem zz {X:Cx}(hu:X.A.units+64<cLine):aX X (compareOp .NotEq) (ck X.kw kr):=by
 intro pins s σ H x y v u Q I rx ry q
 obtain⟨ι,g,d1,d2,d,g',G0,r1,r2,q,p⟩:=q
 unfold kr at q
 split at q
 . rename_i z
   simp only[Bool.and_eq_true,decide_eq_true_eq]at z
   cases q
   exact yN I _ _ z.1.1 z.1.2 (zy G0 r1 z.1.1) (zy G0 r2 z.1.2) rx ry (by omega) _ _ _ _ ⟨.bl _,H,I,rfl,p H ι _ Ext.refl G0 (by simp[Rel])⟩
 . cases q
end L3
namespace PySem
namespace F
end F
section
variable {prog:Program}{w:World}{A:Around}{E:Value->Shared->Prop}{s:Shared}
theorem w9 {x:Value}{Q:List Value->Shared->Prop}
  (h:∀R:Result->Shared->Prop,(∀(h':Heap) (tk:Nat) (fY:Array Value) (c':Nat),h'.get? s.heap.objs.size=some { cls:=.type "list",dict:=none,data:=.seq fY c',slots:=#[] }->Q fY.toList { s with heap:=h',toks:=tk }->R (.ok (.ret (.ref s.heap.objs.size))) { s with heap:=h',toks:=tk }) ->
   wpAny (model prog w) A.in1 (Builtin.List.listExtendWith (.ref s.heap.objs.size) x (.ref s.heap.objs.size))
    (λfin s'=>match fin with|.done f=>R (.ok f) s'|.again c'=>c'.quiet=true/\codeAny (model prog w) A c' R s') (λe s'=>R (.error e) s') { s with heap:=s.heap.push { cls:=.type "list",data:=.seq #[] } }):
  wpAny (model prog w) A (collect x) Q E s:=by
 unfold collect
 refine wpAny_bind (wpAny_runValue (codeAny_builtin F.entry_proto_collect ?_))
 rw[Around.under_plainId F.plain_proto_collect _]
 show wpAny _ A.in1 (newList [] >>= λl=>again (.builtin "list.__iadd__" ⟨[l,x],[]⟩)) _ _ s
 refine wpAny_bind (wpAny_newObj_type ?_)
 refine wpAny_pure ⟨plainId_quiet F.plain_list_iadd _,codeAny_builtin F.entry_list_iadd ?_⟩
 rw[Around.under_plainId F.plain_list_iadd _]
 show wpAny _ A.in1 (Builtin.List.listExtendWith (.ref s.heap.objs.size) x (.ref s.heap.objs.size)) _ _ _
 refine h (wants _ E) λh' tk fY c' hS hq=>?_
 show wpAny _ A (load s.heap.objs.size >>= _) _ _ _
 refine wpAny_bind (wpAny_load hS ?_)
 exact wpAny_pure hq
end
end PySem
namespace L3
open PySem PySem.Spec PyProof.Rows L2
end L3
namespace TL
open PySem PySem.Spec PySem.SeqAt PyProof.Rows PySem.W
section
variable {N:Nat}(hN:0<N)(f:Nat->Int)(hf:∀i j,i<N->j<N->f i=f j->i=j){lt:Nat->Nat->Bool}(aU:∀i j,i<N->j<N->lt i j=decide (f i<f j))
noncomputable def Fp (f:Nat->Int)(p:Array Nat)(i:Nat):Int:=f (p.getD i 0)
def gX (f:Nat->Int)(p:Array Nat)(n:Nat):Prop:=∀i j,i<j->j<n->Fp f p i<Fp f p j
def pB (f:Nat->Int)(p:Array Nat)(n:Nat):Prop:=∀i j,i<j->j<n->Fp f p j<Fp f p i
theorem fT {α:Type}{l:List α}(h:l.Nodup){i j:Nat}(hi:i<l.length)(hj:j<l.length)(e:l[i]=l[j]):i=j:=by
 have h':=List.pairwise_iff_getElem.mp h
 rcases Nat.lt_trichotomy i j with z|z|z
 . exact absurd e (h' i j hi hj z)
 . exact z
 . exact absurd e.symm (h' j i hj hi z)
theorem bJ.size {p:Array Nat}(h:bJ N p):p.size=N:=by
 have:=h.length_eq
 simpa using this
include hN hf in
theorem w_ {p:Array Nat}(hp:bJ N p){i j:Nat}(hi:i<N)(hj:j<N)(dI:i≠j):Fp f p i≠Fp f p j:=λe=>by
 have hs:=hp.size
 have e1:=hf _ _ (hp.lt hN i) (hp.lt hN j) e
 have nd:p.toList.Nodup:=hp.nodup_iff.mpr List.nodup_range
 have iH:i<p.toList.length:=by simp;omega
 have uV:j<p.toList.length:=by simp;omega
 have g1:p.getD i 0=p.toList[i]:=by simp[Array.getD_eq_getD_getElem?,show i<p.size by omega]
 have g2:p.getD j 0=p.toList[j]:=by simp[Array.getD_eq_getD_getElem?,show j<p.size by omega]
 rw[g1,g2]at e1
 exact dI (fT nd iH uV e1)
theorem gX.succ {p:Array Nat}{n:Nat}(h:gX f p n)(hn:1<=n)(hl:Fp f p (n-1)<Fp f p n):gX f p (n+1):=λi j dI hj=>by
 by_cases e:j=n
 . subst e
   by_cases e2:i=j-1
   . subst e2;exact hl
   . have:=h i (j-1) (by omega) (by omega);omega
 . exact h i j dI (by omega)
theorem pB.succ {p:Array Nat}{n:Nat}(h:pB f p n)(hn:1<=n)(hl:Fp f p n<Fp f p (n-1)):pB f p (n+1):=λi j dI hj=>by
 by_cases e:j=n
 . subst e
   by_cases e2:i=j-1
   . subst e2;exact hl
   . have:=h i (j-1) (by omega) (by omega);omega
 . exact h i j dI (by omega)
include hN hf aU
theorem om {p:Array Nat}(hp:bJ N p):∀k n,1<=n->n+k<=N->gX f p n->∃m,cv lt (kas_asc p k n)=m/\gX f p m/\n<=m/\m<=n+k/\(m<n+k->Fp f p m<Fp f p (m-1))
 | 0,n,_,_,h=>⟨n,rfl,h,Nat.le_refl _,by omega,λz=>by omega⟩
 |k+1,n,h1,h2,h=>by
  have e:lt (p.getD n 0) (p.getD (n-1) 0)=decide (Fp f p n<Fp f p (n-1)):=aU _ _ (hp.lt hN n) (hp.lt hN (n-1))
  by_cases c:Fp f p n<Fp f p (n-1)
  . refine⟨n,?_,h,Nat.le_refl _,by omega,λ_=>c⟩
    simp only[kas_asc,cv]
    rw[e,decide_eq_true c];rfl
  . have ne:=w_ hN f hf hp (show n<N by omega) (show n-1<N by omega) (by omega)
    obtain⟨m,e1,e2,e3,e4,e5⟩:=om hp k (n+1) (by omega) (by omega) (h.succ f h1 (by omega))
    refine⟨m,?_,e2,by omega,by omega,λz=>e5 (by omega)⟩
    simp only[kas_asc,cv]
    rw[e,decide_eq_false c];exact e1
theorem sZ {p:Array Nat}(hp:bJ N p):∀k n,1<=n->n+k<=N->pB f p n->∃m,cv lt (kas_desc k p n 0)=(p,m,0)/\pB f p m/\n<=m/\m<=n+k
 | 0,n,_,_,h=>⟨n,rfl,h,Nat.le_refl _,by omega⟩
 |k+1,n,h1,h2,h=>by
  have e:lt (p.getD n 0) (p.getD (n-1) 0)=decide (Fp f p n<Fp f p (n-1)):=aU _ _ (hp.lt hN n) (hp.lt hN (n-1))
  have e':lt (p.getD (n-1) 0) (p.getD n 0)=decide (Fp f p (n-1)<Fp f p n):=aU _ _ (hp.lt hN (n-1)) (hp.lt hN n)
  by_cases c:Fp f p n<Fp f p (n-1)
  . obtain⟨m,e1,e2,e3,e4⟩:=sZ hp k (n+1) (by omega) (by omega) (h.succ f h1 c)
    refine⟨m,?_,e2,by omega,by omega⟩
    simp only[kas_desc,cv]
    rw[e,decide_eq_true c]
    exact e1
  . have ne:=w_ hN f hf hp (show n<N by omega) (show n-1<N by omega) (by omega)
    have c':Fp f p (n-1)<Fp f p n:=by omega
    refine⟨n,?_,h,Nat.le_refl _,by omega⟩
    simp only[kas_desc,cv]
    rw[e,decide_eq_false c]
    simp only[Bool.false_eq_true,if_false,cv]
    rw[e',decide_eq_true c']
    rfl
theorem Ff {p:Array Nat}(hp:bJ N p){n:Nat}(hn:n<=N)(h:pB f p n):gX f (kas_rev p 0 n) n:=λi j dI hj=>by
 have hs:=hp.size
 have g:∀k,k<n->Fp f (kas_rev p 0 n) k=Fp f p (n-1-k):=λk hk=>by
  unfold Fp kas_rev
  rw[Array.getD_eq_getD_getElem?,Array.getD_eq_getD_getElem?,getElem?_mirror_all (by omega),if_pos (by omega)]
  congr 3
  omega
 rw[g i (by omega),g j hj]
 exact h _ _ (by omega) (by omega)
theorem zA {p:Array Nat}(hp:bJ N p){n:Nat}(h1:1<=n)(hn:n<=N)(h:pB f p n):∃m,cv lt (kas_tail3 n N p)=(m,kas_rev p 0 n)/\gX f (kas_rev p 0 n) m/\1<=m/\m<=N:=by
 obtain⟨m,e1,e2,e3,e4,_⟩:=om hN f hf aU (hp.rev 0 n) (N-n) n h1 (by omega) (Ff hN f hf aU hp hn h)
 refine⟨m,?_,e2,by omega,by omega⟩
 unfold kas_tail3
 rw[d_,e1];rfl
theorem s_ {p:Array Nat}(hp:bJ N p){n:Nat}(h1:1<=n)(hn:n+1<=N)(h:pB f p (n+1)):∃m q,cv lt (kas_descPart n N p)=(m,q)/\bJ N q/\gX f q m/\1<=m/\m<=N:=by
 obtain⟨m,e1,e2,e3,e4⟩:=sZ hN f hf aU hp (N-(n+1)) (n+1) (by omega) (by omega) h
 obtain⟨m2,t1,t2,t3,t4⟩:=zA hN f hf aU hp (n:=m) (by omega) (by omega) e2
 refine⟨m2,_,?_,hp.rev 0 m,t2,t3,t4⟩
 unfold kas_descPart
 rw[d_,e1]
 exact t1
theorem zB {p:Array Nat}(hp:bJ N p):∃m q,cv lt (kas_count N p)=(m,q)/\bJ N q/\gX f q m/\1<=m/\m<=N:=by
 obtain⟨m,e1,e2,e3,e4,e5⟩:=om hN f hf aU hp (N-1) 1 (by omega) (by omega) (λi j a b=>by omega)
 unfold kas_count
 rw[d_,e1]
 by_cases hm:m=N
 . subst hm
   exact⟨m,p,by simp[cv],hp,e2,e3,by omega⟩
 . have hW:(m == N)=false:=by simpa using hm
   rw[hW]
   simp only[Bool.false_eq_true,if_false]
   by_cases h1:m>1
   . have c:Fp f p 0<Fp f p (m-1):=e2 0 (m-1) (by omega) (by omega)
     have e:lt (p.getD 0 0) (p.getD (m-1) 0)=decide (Fp f p 0<Fp f p (m-1)):=aU _ _ (hp.lt hN 0) (hp.lt hN (m-1))
     refine⟨m,p,?_,hp,e2,e3,by omega⟩
     rw[if_pos h1]
     simp only[cv]
     rw[e,decide_eq_true c]
     rfl
   . have em:m=1:=by omega
     subst em
     rw[if_neg h1]
     refine s_ hN f hf aU hp (Nat.le_refl _) (by omega) λi j a b=>?_
     have:=e5 (by omega)
     have:i=0:=by omega
     have:j=1:=by omega
     subst_vars
     assumption
theorem kz {p:Array Nat}(hp:bJ N p){k:Nat}(hk:k<N)(hs:gX f p k):∀c l r,l<=r->r<=k->r-l<=c->(∀i,i<l->Fp f p i<Fp f p k)->(∀i,r<=i->i<k->Fp f p k<Fp f p i) ->
  ∃m,cv lt (kas_place p k c l r)=m/\m<=k/\(∀i,i<m->Fp f p i<Fp f p k)/\(∀i,m<=i->i<k->Fp f p k<Fp f p i)
 | 0,l,r,h1,h2,h3,ha,hb=>⟨l,rfl,by omega,ha,λi x y=>hb i (by omega) y⟩
 |c+1,l,r,h1,h2,h3,ha,hb=>by
  unfold kas_place
  by_cases MB:l>=r
  . rw[if_pos MB]
    exact⟨l,rfl,by omega,ha,λi x y=>hb i (by omega) y⟩
  . rw[if_neg MB]
    have e:lt (p.getD k 0) (p.getD ((l+r) / 2) 0)=decide (Fp f p k<Fp f p ((l+r) / 2)):=aU _ _ (hp.lt hN k) (hp.lt hN ((l+r) / 2))
    simp only[cv]
    by_cases q:Fp f p k<Fp f p ((l+r) / 2)
    . rw[e,decide_eq_true q]
      exact kz hp hk hs c l ((l+r) / 2) (by omega) (by omega) (by omega) ha λi x y=>by
       by_cases z:i=(l+r) / 2
       . subst z;exact q
       . have:=hs ((l+r) / 2) i (by omega) y;omega
    . have ne:=w_ hN f hf hp hk (show(l+r) / 2<N by omega) (by omega)
      rw[e,decide_eq_false q]
      exact kz hp hk hs c ((l+r) / 2+1) r (by omega) (by omega) (by omega) (λi x=>by
       by_cases z:i=(l+r) / 2
       . subst z;omega
       . have:=hs i ((l+r) / 2) (by omega) (by omega);omega) hb
theorem Fg {p:Array Nat}(hp:bJ N p){k m:Nat}(hk:k<N)(hm:m<=k)(hs:gX f p k)(ha:∀i,i<m->Fp f p i<Fp f p k)(hb:∀i,m<=i->i<k->Fp f p k<Fp f p i):gX f (bubble p k (k-m)) (k+1):=by
 have hz:=hp.size
 have g:∀i,Fp f (bubble p k (k-m)) i=if i=m then Fp f p k else if m<i/\i<=k then Fp f p (i-1)else Fp f p i:=λi=>by
   unfold Fp
   rw[Array.getD_eq_getD_getElem?,getElem?_bubble (by omega) _ (by omega)]
   rw[show k-(k-m)=m by omega]
   simp only[Array.getD_eq_getD_getElem?]
   split
   . rfl
   . split<;>rfl
 intro i j dI hj
 rw[g i,g j]
 by_cases a:i=m
 . rw[if_pos a,if_neg (by omega),if_pos (by omega)]
   exact hb _ (by omega) (by omega)
 . rw[if_neg a]
   by_cases b:j=m
   . rw[if_pos b,if_neg (by omega)]
     exact ha _ (by omega)
   . rw[if_neg b]
     by_cases c:m<i/\i<=k
     . rw[if_pos c,if_pos (by omega)]
       exact hs _ _ (by omega) (by omega)
     . rw[if_neg c]
       by_cases d:m<j/\j<=k
       . rw[if_pos d]
         by_cases e:i=j-1
         . omega
         . exact hs _ _ (by omega) (by omega)
       . rw[if_neg d]
         exact hs _ _ dI (by omega)
theorem vA:∀c {p:Array Nat} k,bJ N p->k+c<=N->gX f p k->∃q,cv lt (kas_bin c p k)=q/\bJ N q/\gX f q (k+c)
 | 0,p,k,hp,_,h=>⟨p,rfl,hp,h⟩
 |c+1,p,k,hp,h1,h=>by
  obtain⟨m,e1,e2,e3,e4⟩:=kz hN f hf aU hp (show k<N by omega) h k 0 k (by omega) (Nat.le_refl _) (by omega) (λi x=>by omega) (λi x y=>by omega)
  obtain⟨q,q1,q2,q3⟩:=vA c (k+1) (hp.Mw k (k-m)) (by omega) (Fg hN f hf aU hp (by omega) e2 h e3 e4)
  refine⟨q,?_,q2,by rw[show k+(c+1)=k+1+c by omega];exact q3⟩
  unfold kas_bin
  rw[d_,e1]
  exact q1
theorem BE:∃q,cv lt (kas_sort N)=q/\bJ N q/\gX f q N:=by
 obtain⟨m,q,e1,e2,e3,e4,e5⟩:=zB hN f hf aU (p:=List.toArray (List.range N)) (show(List.toArray (List.range N)).toList.Perm _ by simp)
 unfold kas_sort
 rw[d_,e1]
 by_cases h:m<N
 . simp only
   rw[if_pos h]
   have hm:max m 1=m:=by omega
   rw[hm]
   obtain⟨r,r1,r2,r3⟩:=vA hN f hf aU (N-m) m e2 (by omega) e3
   exact⟨r,r1,r2,by rw[show m+(N-m)=N by omega]at r3;exact r3⟩
 . simp only
   rw[if_neg h]
   have:m=N:=by omega
   subst this
   exact⟨q,rfl,e2,e3⟩
end
end TL
namespace L3
open PySem PySem.Spec PyProof.Rows L2 SeqAt
theorem lN {xs:List D}{key:D->Int}(hi:∀x∈xs,∀y∈xs,ltB x y=decide (key x<key y))(hk:(xs.map key).Nodup):(cN xs).Pairwise λx y=>key x<key y:=by
 unfold cN
 by_cases h2:xs.length<2
 . rw[if_pos h2]
   match xs,h2 with
   | [],_=>exact .nil
   | [x],_=>simp
 . rw[if_neg h2]
   have gm:∀i,i<xs.length->xs.getD i .ao∈xs:=λi h=>by simp[h]
   obtain⟨q,q1,q2,q3⟩:=TL.BE (N:=xs.length) (by omega) (λi=>key (xs.getD i .ao)) (λi j a b e=>by
    have ga:(xs.map key)[i]'(by simpa using a)=(xs.map key)[j]'(by simpa using b):=by simpa[a,b]using e
    exact TL.fT hk (by simpa using a) (by simpa using b) ga) (lt:=λi j=>ltB (xs.getD i .ao) (xs.getD j .ao)) (λi j a b=>hi _ (gm i a) _ (gm j b))
   unfold dz
   rw[q1,List.pairwise_map,List.pairwise_iff_getElem]
   intro i j iH uV dI
   have hs:=q2.size
   have Rw:j<xs.length:=by simp at uV;omega
   have:=q3 i j dI Rw
   unfold TL.Fp at this
   have g:∀k (h:k<q.toList.length),q.getD k 0=q.toList[k]:=λk h=>by
    simp at h
    simp[Array.getD_eq_getD_getElem?,h]
   rw[g i iH,g j uV]at this
   exact this
end L3
namespace PySem
namespace F
end F
end PySem
namespace PyProof.Rows
open PySem
section
variable {prog:Program}{w:World}{A:Around}{E:Value->Shared->Prop}{s:Shared}
theorem td {h:Heap}{a:Addr}{vs:List Value}{n:Nat}{out:Array Value}(ho:h.get? a=some (seqObj "list" vs.toArray n)):∃c,(sortedHeap h a vs out).get? a=some (seqObj "list" out c):=by
 unfold sortedHeap
 have ha:a<h.objs.size:=Heap.lt_size ho
 have sN:=get?_update_seq ho (λ_=>#[])
 have CU:=Heap.get?_push_of_some (seqObj "list" #[] 0) (Heap.get?_push_of_some (seqObj "tuple" vs.toArray 0) sN)
 exact⟨_,get?_update_seq CU (λ_=>out)⟩
theorem pC {h:Heap}{a b:Addr}{vs:List Value}{out:Array Value}{o:Obj}(hb:b≠a)(e:h.get? b=some o):(sortedHeap h a vs out).get? b=some o:=by
 unfold sortedHeap
 rw[Heap.get?_update_other _ _ hb.symm]
 exact Heap.get?_push_of_some _ (Heap.get?_push_of_some _ ((Heap.get?_update_other _ _ hb.symm).trans e))
theorem ki {x:Value}{ns:List Int}{Q:Value->Shared->Prop}(sM:ns.length<64)
  (hc:∀(A':Around) (E':Value->Shared->Prop) (Q':List Value->Shared->Prop),A'.handled=A.handled->(∀(h':Heap) (tk:Nat) (vs:List Value),(∀b o,s.heap.get? b=some o->h'.get? b=some o)->s.heap.objs.size<=h'.objs.size->IntsAre vs ns->Q' vs { s with heap:=h',toks:=tk })->wpAny (model prog w) A' (collect x) Q' E' s)
  (h:∀(h':Heap) (tk L c:Nat) (out:Array Value),(∀b o,s.heap.get? b=some o->h'.get? b=some o)->s.heap.objs.size<=L->h'.get? L=some (seqObj "list" out c)->IntsAre out.toList (PySem.W.sortI ns)->Q (.ref L) { s with heap:=h',toks:=tk }):
  wpAny (model prog w) A (call (.builtin "sorted") [x]) Q E s:=by
 refine Calls.call_function_entry kind_sorted plain_sorted entry_sorted (args_sorted1 _) ?_
 unfold Builtin.«sorted»
 refine wpAny_bind (m:=checkCount "sorted" 1 1 _) (wpAny_pure ?_)
 refine wpAny_bind (hc _ _ _ rfl λh1 tf vs k1 tm hI=>?_)
 have hl:vs.length<64:=by rw[hI.length];exact sM
 refine wpAny_bind (wpAny_newList ?_ (by rw[sizeLine_eq];omega))
 have jF:(h1.push (seqObj "list" vs.toArray 0)).get? h1.objs.size=some (seqObj "list" vs.toArray 0):=Heap.get?_push_size _ rfl
 refine wpAny_bind (wpAny_holding (wpAny_call_entry slot_list_sort ⟨_,jF,rfl⟩ entry_list_sort (list_sort_tree jF hI hl λout Ti a1 a2 a3=>⟨_,rfl,?_⟩) (args_list_sort _)))
 have e:=PySem.W.eq_sortI a2 a3
 subst e
 obtain⟨c,hc⟩:=td (out:=out) jF
 refine wpAny_pure ⟨_,rfl,h _ _ h1.objs.size c out (λb o q=>?_) tm hc a1⟩
 have q1:=k1 b o q
 exact pC (Nat.ne_of_lt (Heap.lt_size q1)) (Heap.get?_push_of_some _ q1)
end
end PyProof.Rows
namespace L3
open PySem PySem.Spec PyProof.Rows L2 SeqAt DK
end L3
namespace SJ
open PySem PySem.Spec PyProof.Rows SW
theorem eV.at {h h':Heap}{a:Addr}{led:Bool}{ks:List Int}(hS:eV h a led ks)(k:∀o,h.get? a=some o->h'.get? a=some o):eV h' a led ks:=by
 obtain⟨es,ep,P,l,ha,r⟩:=hS
 exact⟨es,ep,P,l,k _ ha,r⟩
noncomputable def df (val:Nat->Int):Nat->List Int
 | 0=>[]
 |i+1=>oU (df val i) (val i)
theorem ik (val:Nat->Int):∀i,(df val i).length<=i
 | 0=>Nat.le_refl _
 |i+1=>by
  have:=ik val i
  unfold df oU
  split
  . omega
  . simp;omega
section
variable {prog:Program}{w:World}{A:Around}{R:Result->Shared->Prop}{I:Addr}{fp wr:List Addr}{G:Array GenState->Array GenState->Prop}{n:Nat}{P:Nat->Value->Prop}{St:Nat->Shared->Prop}
theorem zC (W:WalksS prog w A.in1 I fp wr G n P St)(S:Addr)(uI:S ∉ fp)(led:Bool)(val:Nat->Int)(hv:∀i v,P i v->∃t,v = .int (val i) t)(hn:n<=18):
  ∀(k i:Nat) (s:Shared),n-i=k->i<=n->St i s->eV s.heap S led (df val i) ->
    (∀s',Moved (S::wr) G s s'->eV s'.heap S led (df val n)->R (.ok (.ret .none)) s') ->
    codeAny (model prog w) A (.builtin "set.update.loop" ⟨[.ref S,.ref I],[]⟩) R s:=by
 have MC:S ∉ wr:=λh=>uI (W.sub _ h)
 have wc:∀b∈wr,b∈S::wr:=λb hb=>List.mem_cons_of_mem _ hb
 intro k
 induction k with
 |zero =>
  intro i s hk hi cA hS hR
  have de:i=n:=by omega
  subst de
  refine codeAny_builtin F.entry_set_update_loop ?_
  rw[Around.under_plainId F.plain_set_update_loop _]
  show wpAny _ A.in1 (pyNext (.ref I) >>= _) _ _ s
  refine wpAny_bind (W.done s _ _ cA λs' hm=>?_)
  exact wpAny_pure (hR s' (hm.mono wc) (hS.at λo e=>hm.heap S _ MC e))
 |succ k ih =>
  intro i s hk hi cA hS hR
  have aU:i<n:=by omega
  refine codeAny_builtin F.entry_set_update_loop ?_
  rw[Around.under_plainId F.plain_set_update_loop _]
  show wpAny _ A.in1 (pyNext (.ref I) >>= _) _ _ s
  refine wpAny_bind (W.item i s _ _ aU cA λv s' hP Oj hm=>?_)
  obtain⟨t,rfl⟩:=hv i v hP
  have uJ:eV s'.heap S led (df val i):=hS.at λo e=>hm.heap S _ MC e
  show wpAny _ A.in1 (holding [Value.int (val i) t] (setAdd S (.int (val i) t)) >>= _) _ _ s'
  refine wpAny_bind (wpAny_holding ?_)
  unfold setAdd
  refine wpAny_holding ?_
  refine wpAny_bind ((intKind prog w).pyHash (k:=val i) (intKind_is _ _ _ _) ?_)
  have hr:(df val i).length<=17:=by have:=ik val i;omega
  refine D_ (s:={ s' with toks:=s'.toks+1 }) uJ (.inl hr) λb h' MD oS=>?_
  refine wpAny_pure ⟨plainId_quiet F.plain_set_update_loop _,ih (i+1) _ (by omega) aU (W.frame _ s' _ _ Oj (Nat.le_succ _) λb hb o e=>?_) oS λqA Ol Om=>?_⟩
  . rw[MD.2 b (λh:b=S=>uI (by rw[<- h];exact hb))];exact e
  . refine hR qA (Moved.trans W.gtrans ((hm.mono wc).then_heap (Nat.le_succ _) λb o hb e=>?_) Ol) Om
    rw[MD.2 b (λh:b=S=>hb (by rw[h];exact List.mem_cons_self))];exact e
end
section
variable {prog:Program}{w:World}{A:Around}{E:Value->Shared->Prop}{s:Shared}
theorem Oo {h:Heap}{a:Addr}{led:Bool}(e:h.get? a=some (emp led)):eV h a led []:=
 ⟨#[],0,tb [] led,[],e,⟨rfl,rfl,rfl,List.Pairwise.nil,by intro j hj;simp[tb]at hj,.inl ⟨rfl,by decide⟩⟩,rfl,List.Perm.refl _,rfl⟩
theorem Oq {a:Addr}{ks:List Int}(hS:eV s.heap a (!w.params.followText "set-order") ks):∃es ep t ord ok ms,s.heap.get? a=some (dM es ep t)/\Way prog w a es ep t ord ok/\(w.params.followText "set-order" = true\/t.plain=true)/\es.size<=18/\IntsAre ord ms/\ms.Perm ks:=by
 obtain⟨es,ep,t,l,ha,T,lS,hp,qS⟩:=hS
 have hf:t.fits es.size=true:=T.fits
 have G4:es.size<=18:=by rcases T.mx with h|h<;>omega
 have hv:(es.toList.map (·.2)).Perm (l.map λp=>(gJ p).2):=by
  have:=hp.map (·.2)
  rwa[List.map_map]at this
 have io:∀l:List (Int×Nat),IntsAre (l.map λp=>(gJ p).2) (l.map (·.1)):=by
  intro l
  induction l with
  |nil=>exact .nil
  |cons p l ih=>exact .cons _ _ ih
 cases hb:w.params.followText "set-order" with
 |true =>
  obtain⟨ms,h1,h2⟩:=oV (((oR (w.params.setOrder a ep) es).map (·.2)).trans hv) (io l)
  exact⟨es,ep,t,_,_,ms,ha,NG hf hb,.inl rfl,G4,h1,by rw[<- qS];exact h2⟩
 |false =>
  rw[hb]at lS
  obtain⟨ms,h1,h2⟩:=oV hv (io l)
  have hr:=T.ri
  have bl:∀i j,t.place[i]? = some j->SetTable.below t.place (j+1)=i+1:=by
   intro i j e
   obtain⟨hi,e⟩:=Array.getElem?_eq_some_iff.mp e
   obtain⟨a1,a2,a3⟩:=jh hr (j+1)
   have h1:¬SetTable.below t.place (j+1)<=i:=λh=>by
    have:=a3 i hi h
    omega
   have h2:¬i+1<SetTable.below t.place (j+1):=λh=>by
    have hl:i+1<t.place.size:=by omega
    have q1:=a2 (i+1) hl h
    have q2:=mG hr hl (Nat.lt_succ_self i)
    omega
   omega
  have b0:SetTable.below t.place 0=0:=by
   obtain⟨a1,a2,a3⟩:=jh hr 0
   refine Classical.byContradiction λh=>?_
   have hl:0<t.place.size:=by omega
   have:=a2 0 hl (by omega)
   omega
  exact⟨es,ep,t,_,_,ms,ha,NH hf hb lS T.pl T.sz b0 bl,.inr T.pl,G4,h1,by rw[<- qS];exact h2⟩
theorem ud {a:Addr}{ks:List Int}{Q:Value->Shared->Prop}(hh:A.handled=none)(hS:eV s.heap a (!w.params.followText "set-order") ks)
  (h:∀(h':Heap) (tk L c:Nat) (out:Array Value),(∀b o,s.heap.get? b=some o->h'.get? b=some o)->s.heap.objs.size<=L->h'.get? L=some (seqObj "list" out c)->IntsAre out.toList (PySem.W.sortI ks)->Q (.ref L) { s with heap:=h',toks:=tk }):
  wpAny (model prog w) A (call (.builtin "sorted") [.ref a]) Q E s:=by
 obtain⟨es,ep,t,ord,ok,ms,ha,W,hd,h3,hI,hp⟩:=Oq (prog:=prog) hS
 have e0:PySem.W.sortI ms=PySem.W.sortI ks:=by
  refine PySem.W.eq_sortI ((PySem.W.sortI_perm ms).trans hp) ?_
  exact PySem.W.sortI_rises ms
 have Rx:es.size<=sizeLine:=by rw[sizeLine_eq];omega
 refine ki (ns:=ms) (by rw[<- hI.length,W.len];omega) (λA' E' Q' Jn k=>?_) (by rw[e0];exact h)
 exact t9 W (by rw[Jn];exact hh) ha hd Rx λh1 tf tm k1=>k h1 tf _ k1 (Nat.le_of_lt tm) hI
end
section
variable {prog:Program}{w:World}{A:Around}{E:Value->Shared->Prop}{s:Shared}
set_option maxHeartbeats 3200000 in
theorem call_set_list {l:Addr}{items:Array Value}{val:Nat->Int}{Q:Value->Shared->Prop}(hh:A.handled=none)(hl:s.heap.IsList l items)(hi:∀(i:Nat) (v:Value),items[i]? = some v->∃t,v=Value.int (val i) t)(hb:items.size<=18)
  (h:∀(h':Heap) (tk:Nat),eV h' s.heap.objs.size (!w.params.followText "set-order") (df val items.size)->(∀b o,b<s.heap.objs.size->s.heap.get? b=some o->h'.get? b=some o)->Q (.ref s.heap.objs.size) { s with heap:=h',toks:=tk }):
  wpAny (model prog w) A (call (.type "set") [.ref l]) Q E s:=by
 generalize lS:(!w.params.followText "set-order")=led at *
 obtain⟨c,tl,SX⟩:=F.called_set.mro
 have SR:=F.called_set.made
 have wc:=F.called_set.sub
 refine wpAny_call (codeAny_of_tree ?_);show wpAny _ _ (callAny (.type "set") _) _ _ _
 refine wpAny_pure ⟨Code.quiet_builtin _ (by decide +kernel),codeAny_builtin F.entry_type_call ?_⟩;rw[Around.under_plain (weight_type_call_type "set" [.ref l] []) rfl]
 have h1:=F.called_set.notType
 have h2:=F.called_set.canCreate
 have Tj:=F.typeCall_set_1 (.ref l)
 repeat (any_goals (first|assumption|wp_step))
 refine codeAny_mono (D9 (.ref l) (E:=E) (Q₁:=λobj s₁=>obj = .ref s.heap.objs.size/\s₁={ s with heap:=s.heap.push (emp led) }) ⟨rfl,by rw[lS]⟩) λr s₁ hr=>?_
 cases r with
 |error e=>exact hr
 |ok fl =>
  cases fl with
  |ret obj =>
   obtain⟨rfl,rfl⟩:=hr
   have hS:(s.heap.push (emp led)).get? s.heap.objs.size=some (emp led):=Heap.get?_push_size _ rfl
   have hT:Shared.TypeIs { s with heap:=s.heap.push (emp led) } (.ref s.heap.objs.size) "set":=⟨_,hS,rfl⟩
   have Tn:=F.called_set.init.lookup
   have CW:=F.called_set.init.bind (.ref s.heap.objs.size)
   repeat (any_goals (first|assumption|wp_step))
   refine codeAny_mono (codeAny_call_builtin (R:=wants (λr s₂=>r = .none /\ ∃h' tk,s₂={ s with heap:=h',toks:=tk }/\eV h' s.heap.objs.size led (df val items.size) /\
      (∀b o,b<s.heap.objs.size->s.heap.get? b=some o->h'.get? b=some o)) E) F.called_set.init.plain F.entry_set_init (check_set_init_1 hT ?_)) λr₂ s₂ hr₂=>?_
   . obtain⟨ol,ME,eP,nl,MF⟩:=hl
     obtain⟨SY,Ls,SS,Jo⟩:=ol
     simp only at eP MF
     subst eP;subst MF
     have Ot:(s.heap.push (emp led)).get? l=some { cls:=.type "list",dict:=Ls,data:=.seq items nl,slots:=Jo }:=Heap.get?_push_of_some _ ME
     have S3:=F.sub_list_set
     have S4:=F.sub_list_frozenset
     have cY:(Value.type "list" == Value.type "dict")=false:=by decide
     have MG:(s.heap.push (emp led)).IsList l items:=⟨_,Ot,rfl,nl,rfl⟩
     unfold Builtin.«set.__init__» noKeywords Builtin.Frozenset.updateFrom
     generalize Ry:pyIter=PI
     wp_walk
     subst Ry
     refine wpAny_pyIter_list MG ?_
     refine wpAny_bind (wpAny_runValue ?_)
     have MH:l<s.heap.objs.size:=Heap.lt_size ME
     have Rz:A.in1.in1.in1.handled=none:=by simp[hh]
     have Ou:l≠(s.heap.push (emp led)).objs.size:=by
      rw[Heap.size_push];exact Nat.ne_of_lt (Nat.lt_succ_of_lt MH)
     have uI:s.heap.objs.size ∉ [(s.heap.push (emp led)).objs.size,l]:=by
      rw[Heap.size_push];simp only[List.mem_cons,List.mem_singleton,List.not_mem_nil,or_false,not_or]
      exact⟨Nat.ne_of_lt (Nat.lt_succ_self _),Nat.ne_of_gt MH⟩
     refine zC ((Walks.list Rz _ l Ou items).toS) s.heap.objs.size uI led val hi hb (items.size-0) 0 _ (by omega) (Nat.zero_le _) ⟨⟨_,Heap.get?_push_size _ rfl,rfl,rfl⟩,(MG.push _)⟩ ?hS0 ?hR
     case hS0=>exact Oo (Heap.get?_push_of_some _ hS)
     case hR =>
      intro s' hm uJ
      obtain⟨h',g',d',oT,xV⟩:=s'
      have eg:g'=s.gens:=hm.gens
      have ed:d'=s.drawn:=hm.drawn
      have eo:xV=s.os:=hm.os
      subst eg;subst ed;subst eo
      show wpAny _ _ _ _ _ _
      refine wpAny_pure ?_
      show wpAny _ _ (ret Value.none) _ _ _
      have ht:∀b o,b<s.heap.objs.size->s.heap.get? b=some o->h'.get? b=some o:=λb o hb e=>by
       have q1:b≠s.heap.objs.size:=Nat.ne_of_lt hb
       have q2:b≠(s.heap.push (emp led)).objs.size:=by rw[Heap.size_push];exact Nat.ne_of_lt (Nat.lt_succ_of_lt hb)
       exact hm.heap b o (by simp only[List.mem_cons,List.not_mem_nil,or_false,not_or];exact⟨q1,q2⟩) (Heap.get?_push_of_some _ (Heap.get?_push_of_some _ e))
      exact wpAny_pure ⟨rfl,h',oT,rfl,uJ,ht⟩
   . cases r₂ with
     |error e=>exact hr₂
     |ok fl₂ =>
      cases fl₂ with
      |ret r =>
       obtain⟨rfl,h',tk,rfl,kn,j8⟩:=hr₂
       repeat (any_goals (first|assumption|wp_step))
       exact h _ _ kn j8
      |_=>exact hr₂.elim
  |_=>exact hr.elim
end
end SJ
namespace L3
open PySem PySem.Spec PyProof.Rows L2 SJ
noncomputable def tu (fe:FE):FE:=λσ g=>(fe σ g).bind λr=>(eJ r.1 r.2).bind λxs=>(fI xs).bind λns=>if decide (ns.length<=18)=true then some (.lst ((PySem.W.sortI (df (λi=>ns.getD i 0) ns.length)).map .int),r.2)else none
section
variable {X:Cx}
theorem Jp {e:Expr}{fe:FE}{p1 p2 Jq jC:Pos}(hh:X.A.handled=none)(RA:X.mg "sorted" = none)(RB:X.mg "set" = none)(he:DE X e fe)(RC:Gl X "sorted":=by rfl)(zu:Gl X "set":=by rfl)
   (yj:starEach [Expr.Call (.Name "set" p2) [e] [] jC] X.env=(false,eval (.Call (.Name "set" p2) [e] [] jC) X.env)::starEach [] X.env:=by rfl) (MI:starEach [e] X.env=(false,eval e X.env)::starEach [] X.env:=by rfl):
   DE X (.Call (.Name "sorted" p1) [.Call (.Name "set" p2) [e] [] jC] [] Jq) (tu fe):=.of (by
 intro pins s σ H Q I h
 obtain⟨ι,σd,g,d,g',G0,S0,h,p⟩:=h
 obtain⟨⟨d1,g1⟩,h1,h⟩:=bind_some h
 obtain⟨xs,hx,h⟩:=bind_some h
 obtain⟨ns,hn,h⟩:=bind_some h
 dsimp only at hx h
 split at h
 . rename_i Jr
   cases h
   rw[decide_eq_true_eq]at Jr
   have arg:=(iF he.un mz MI) jC pins s σ H (λvs H1=>∃ι1 a us,vs = [.ref a]/\b7 X.kw H1 a us/\ae X.kw H1 ι1 xs us/\Ext H ι H1 ι1/\ak X.kw H1 ι1 g') I (tD.bind G0 S0 h1 λH1 ι1 v e1 G1 S1 r1=>by
    obtain⟨a,us,rfl,hq,hr⟩:=gQ G1 r1 hx
    exact⟨ι1,a,us,rfl,hq,hr,e1,G1⟩)
   refine wpAny_Call_Name_kw (gF I RC RA (u:=.builtin "sorted") rfl ?_ (by decide) (by decide))
   refine PyProof.Rows.callWith_builtin1 ?_ yj rfl
   rw[yj]
   show wpAny _ _ (spliced ((false,eval (.Call (.Name "set" p2) [e] [] jC) X.env)::backTo Jq (starEach [] X.env))) _ _ s
   refine Calls.spliced_cons ?_
   refine wpAny_Call_Name_kw (gF I zu RB (u:=.type "set") rfl ?_ (by decide) (by decide))
   refine PyProof.Rows.callWith_type1 (aT arg λlL s1 q1=>?_) MI rfl
   obtain⟨vs,H1,I1,rv,ι1,a,us,rfl,hq,hr,e1,G1⟩:=q1
   obtain⟨u,rfl,ru⟩:=rv.one
   cases ru
   obtain⟨ah,aN,pl,hz⟩:=I1.list hq
   have hA:=oZ hn hr aN
   have He:ah.length=ns.length:=by
    obtain⟨ps,rfl,rfl⟩:=mR hA
    simp
   have cX:ah.toArray.size=ns.length:=by rw[List.size_toArray];exact He
   refine SJ.call_set_list (items:=ah.toArray) (val:=λi=>ns.getD i 0) hh pl.isList (λi v hv=>PyProof.Rows.IntsAre.int_at (by simpa using hA:IntsAre ah.toArray.toList ns) i v (by rw[Array.getElem?_toList];exact hv)) (by rw[cX];exact Jr) λh2 MJ oS k2=>?_
   rw[cX]at oS
   refine Calls.spliced_nil ?_
   have kk:∀b o,s1.heap.get? b=some o->h2.get? b=some o:=λb o q=>k2 b o (Heap.lt_size q) q
   have I2:Inv X pins σ H1 { s1 with heap:=h2,toks:=MJ }:=I1.kept kk
   refine SJ.ud (s:={ s1 with heap:=h2,toks:=MJ }) hh oS λh3 RD L c out k3 hL hc hO=>?_
   have MK:s1.heap.objs.size<=L:=by
    obtain⟨_,_,_,_,ha,_⟩:=oS
    exact Nat.le_trans (Nat.le_of_lt (Heap.lt_size ha)) hL
   have d7:=I1.aV.fresh MK
   have LV:((PySem.W.sortI (df (λi=>ns.getD i 0) ns.length)).map V.int).length<=sizeLine:=by
    rw[List.length_map,(PySem.W.sortI_perm _).length_eq];exact Nat.le_trans (ik _ _) (Nat.le_trans Jr (by decide))
   refine⟨.ref L,_,I1.laid (t':=RD) (λb o q=>k3 b o (kk b o q)) MK (show b8 X.prog X.w _ _ _ (.lst ((PySem.W.sortI (df (λi=>ns.getD i 0) ns.length)).map V.int)) from⟨LV,out.toList,c,fO hO,by simpa[seqObj]using hc⟩),rfl,p _ _ _ (e1.trans (Ext.lay d7)) (G1.lay d7) ?_⟩
   simp only[Rel]
   exact⟨_,_,rfl,.inl ⟨.inl aR,G1.fresh d7,G1.gK d7⟩,mS _⟩
 . cases h)
end
@[simp] theorem Fh {fe:FE}{σ:Sg}{g:G}:tu fe σ g=(fe σ g).bind λr=>(eJ r.1 r.2).bind λxs=>(fI xs).bind λns=>if decide (ns.length<=18)=true then some (.lst ((PySem.W.sortI (df (λi=>ns.getD i 0) ns.length)).map .int),r.2)else none:=rfl
end L3
namespace RI
open PySem PySem.Spec PyProof.Rows L2 L3
noncomputable def zD (c:Cs)(l:Expr):Bool:=y_ c l||(match l with|.Call (.Name _ _) _ _ _=>true|_=>false)
noncomputable def Ov:jA where
 e:=λm c E _ x=>match x with
  |.Compare l [.NotEq] [b] _=>if zD c l && !(isSet b)then some (ai kr (E l) (E b))else none
  |_=>none
 sD:=by
  intro m c X E g hE rf x f h
  split at h
  . split at h
    . rename_i hh
      simp only[Bool.and_eq_true,Bool.not_eq_true']at hh
      cases h
      exact yk (zz g.hu) (hE _) (hE _) (marks hh.2)
    . cases h
  . cases h
 t:=λm c E x=>match x with
  |.Compare l [.NotEq] [b] _=>if zD c l && !(isSet b)then some (ay (ai kr (E l) (E b)))else none
  |_=>none
 tok:=by
  intro m c X E g hE x f h
  split at h
  . split at h
    . rename_i hh
      simp only[Bool.and_eq_true,Bool.not_eq_true']at hh
      cases h
      exact ym (zz g.hu) (hE _) (hE _) (marks hh.2)
    . cases h
  . cases h
noncomputable def qh (x:Expr):Option (Str×Expr):=match x with
 |.Call f as ks _=>(match f with
  |.Name t _=>(match as with
   | []=>none
   |a::r=>if r.isEmpty&&ks.isEmpty then some (t,a)else none)
  |_=>none)
 |_=>none
theorem tv {x a:Expr}{t:Str}(h:qh x=some (t,a)):∃p pos,x = .Call (.Name t p) [a] [] pos:=by
 cases x with
 |Call f as ks pos =>
  cases f with
  |Name t' p =>
   cases as with
   |nil=>cases h
   |cons b r =>
    simp only[qh]at h
    split at h
    . rename_i hh
      rw[Bool.and_eq_true,List.isEmpty_iff,List.isEmpty_iff]at hh
      cases h
      obtain⟨rfl,rfl⟩:=hh
      exact⟨_,_,rfl⟩
    . cases h
  |_=>cases h
 |_=>cases h
noncomputable def zE (m:G0)(c:Cs)(t r:Str)(x:Expr):Option Expr:=(qh x).bind λy=>(qh y.2).bind λz=>if y.1 == t&&z.1 == r&&c.sc.names.lookup y.1 == some .globalImplicit&&c.sc.names.lookup z.1 == some .globalImplicit&&m.gk.elem y.1&&m.gk.elem z.1 && !(isStar z.2)then some z.2 else none
theorem zF {m:G0}{c:Cs}{t r:Str}{x a:Expr}(h:zE m c t r x=some a):∃p p2 pos jC,x = .Call (.Name t p) [.Call (.Name r p2) [a] [] jC] [] pos/\c.sc.names.lookup t=some .globalImplicit/\c.sc.names.lookup r=some .globalImplicit/\t∈m.gk/\r∈m.gk/\isStar a=false:=by
 obtain⟨⟨t',y⟩,h1,hA⟩:=bind_some h
 obtain⟨⟨r',z⟩,h2,hB⟩:=bind_some hA
 dsimp only at hB h2
 obtain⟨p,pos,rfl⟩:=tv h1
 obtain⟨p2,jC,rfl⟩:=tv h2
 split at hB
 . rename_i hh
   simp only[Bool.and_eq_true,beq_iff_eq,Bool.not_eq_true']at hh
   obtain⟨⟨⟨⟨⟨⟨rfl,rfl⟩,h3⟩,h4⟩,h5⟩,h6⟩,h7⟩:=hh
   cases hB
   exact⟨_,_,_,_,rfl,h3,h4,List.elem_iff.mp h5,List.elem_iff.mp h6,h7⟩
 . cases hB
noncomputable def Js:jA where
 e:=λm c E _ x=>(zE m c "sorted" "set" x).map λa=>tu (E a)
 sD:=by
  intro m c X E g hE rf x f h
  obtain⟨a,ha,rfl⟩:=Option.map_eq_some_iff.mp h
  obtain⟨p,p2,pos,jC,rfl,h1,h2,h3,h4,h5⟩:=zF ha
  exact Jp g.rm.hd (g.bl _ h3) (g.bl _ h4) (hE a) (g.gl h1) (g.gl h2) rfl (bq h5)
 t:=CZ
 tok:=by intro m c X E g hE x f h;cases h
end RI
namespace TL
open PySem PyProof.Rows PySem.W
section
variable {prog:Program}{w:World}{A:Around}{E:Value->Shared->Prop}{s:Shared}
theorem xa {x:Value}{p0:Array Nat}{vs out:List Value}{κ:SortKind}{Q:Value->Shared->Prop}(sM:vs.length<64)
  (hc:∀(A':Around) (E':Value->Shared->Prop) (Q':List Value->Shared->Prop),A'.handled=A.handled->(∀(h':Heap) (tk:Nat),(∀b o,s.heap.get? b=some o->h'.get? b=some o)->s.heap.objs.size<=h'.objs.size->Q' vs { s with heap:=h',toks:=tk })->wpAny (model prog w) A' (collect x) Q' E' s)
  (hk:2<=vs.length->∀(h':Heap) (tk:Nat),(∀b o,s.heap.get? b=some o->h'.get? b=some o)->∀(E:Value->Shared->Prop) (R:SortKind->Shared->Prop),R κ { s with heap:=h',toks:=tk }->wpAny (model prog w) A.in1.in1 (keyKind' vs.toArray) R E { s with heap:=h',toks:=tk })
  (sN:vs.length<2->out=vs) (dJ:2<=vs.length->out=p0.toList.map λi=>vs.getD i .none) (hz:out.length<64)
  (hw:∀(h':Heap) (tk:Nat),(∀b o,s.heap.get? b=some o->h'.get? b=some o)->2<=vs.length->(kas_sort vs.length).kasWp (kas_ask prog w A.in1.in1 κ vs) (λp s'=>s'={ s with heap:=h',toks:=tk }/\p=p0) { s with heap:=h',toks:=tk })
  (h:∀(h':Heap) (tk L c:Nat),(∀b o,s.heap.get? b=some o->h'.get? b=some o)->s.heap.objs.size<=L->h'.get? L=some (seqObj "list" out.toArray c)->Q (.ref L) { s with heap:=h',toks:=tk }):
  wpAny (model prog w) A (call (.builtin "sorted") [x]) Q E s:=by
 refine Calls.call_function_entry kind_sorted plain_sorted entry_sorted (args_sorted1 _) ?_
 unfold Builtin.«sorted»
 refine wpAny_bind (m:=checkCount "sorted" 1 1 _) (wpAny_pure ?_)
 refine wpAny_bind (hc _ _ _ rfl λh1 tf k1 tm=>?_)
 refine wpAny_bind (wpAny_newList ?_ (by rw[sizeLine_eq];omega))
 have jF:(h1.push (seqObj "list" vs.toArray 0)).get? h1.objs.size=some (seqObj "list" vs.toArray 0):=Heap.get?_push_size _ rfl
 have keep:∀b o,s.heap.get? b=some o->(h1.push (seqObj "list" vs.toArray 0)).get? b=some o:=λb o q=>Heap.get?_push_of_some _ (k1 b o q)
 have Ir:∀b o,s.heap.get? b=some o->b≠h1.objs.size:=λb o q=>Nat.ne_of_lt (Heap.lt_size (k1 b o q))
 have nj:∀b o,s.heap.get? b=some o->(b4 (h1.push (seqObj "list" vs.toArray 0)) h1.objs.size vs).get? b=some o:=λb o q=>lI (Ir b o q) (keep b o q)
 refine wpAny_bind (wpAny_holding (wpAny_call_entry slot_list_sort ⟨_,jF,rfl⟩ entry_list_sort (kh (s:={ s with heap:=h1.push (seqObj "list" vs.toArray 0),toks:=tf }) jF sM (λz R r=>hk z _ tf nj _ R r) sN dJ hz (λz=>hw _ tf nj z) ⟨_,rfl,?_⟩) (args_list_sort _)))
 obtain⟨c,B0⟩:=td (out:=out.toArray) jF
 exact wpAny_pure ⟨_,rfl,h _ tf h1.objs.size c (λb o q=>pC (Ir b o q) (keep b o q)) tm B0⟩
end
end TL
namespace L3
open PySem PySem.Spec PyProof.Rows L2 SeqAt DK
noncomputable def dW (ds:List D)(g:G):Option (D×G):=match ds with
 | [.aI n]=>(g[n]?).bind λxs=>if pq (aJ xs)=true then some (.lst (cN (aJ xs)),g)else none
 |ds=>kj ds g
section
variable {X:Cx}
theorem BF (hh:X.A.handled=none)(hu:X.A.units+64<cLine):bS X (.builtin "sorted") (h_ X.kw dW):=by
 intro pins s σ H xs us Q I r q
 obtain⟨ι,g,ds,d,g',G0,r1,q,p⟩:=q
 unfold dW at q
 split at q
 . rename_i n
   obtain⟨zs,hx,q⟩:=bind_some q
   split at q
   . rename_i z
     simp only[pq,Bool.and_eq_true,Bool.or_eq_true,decide_eq_true_eq]at z
     obtain⟨⟨⟨⟨z1,z2⟩,z3⟩,z4⟩,z5⟩:=z
     cases q
     simp only[ae]at r1
     obtain⟨v,_,rfl,rv,rfl⟩:=r1
     simp only[Rel]at rv
     obtain⟨a,rfl,ha⟩:=rv
     obtain⟨u,rfl,ru⟩:=vals1 r
     cases ru
     obtain⟨es,To,c,hH,mX,eP,pd,pz,nd,sy,sz,rl⟩:=G0.iJ hx ha
     have en:=Ent.of pd pz rl
     obtain⟨vs,aN,hr⟩:=BD en
     have ho:=dN I hH
     generalize hits:es.map (·.key)=ah at *
     generalize aJ zs=ys at *
     have hlen:ah.length=ys.length:=by rw[<- aN.length,hr.length]
     have IS:vs.length=ys.length:=hr.length.symm
     obtain⟨b,hb⟩:∃b:Nat,2<=ys.length->∀d∈ys,fZ d=some b:=by
       rcases z4 with z4|z4|z4|z4
       . exact⟨1,λh=>by omega⟩
       . exact⟨1,λ_ d hd=>eq_of_beq (List.all_eq_true.mp z4 d hd)⟩
       . exact⟨0,λ_ d hd=>eq_of_beq (List.all_eq_true.mp z4 d hd)⟩
       . exact⟨2,λ_ d hd=>eq_of_beq (List.all_eq_true.mp z4 d hd)⟩
     have pm:2<=ys.length->∀i∈dz ys,i<ys.length:=λh i hi=>List.mem_range.mp ((cW h).mem_iff.mp hi)
     have fin:∀(out:List Value) (ov:List V),Vals ov out->ae X.kw H ι (cN ys) ov->out.length<64->∀(h':Heap) (tk L c:Nat),(∀b o,s.heap.get? b=some o->h'.get? b=some o)->s.heap.objs.size<=L->h'.get? L=some (seqObj "list" out.toArray c)->EP X pins σ Q (.ref L) { s with heap:=h',toks:=tk }:=λout ov h1 h2 hz h' tk L c hk hL hc=>by
       have d7:=I.aV.fresh hL
       refine⟨.ref L,_,I.laid (t':=tk) hk hL (show b8 X.prog X.w _ _ _ (.lst ov) from⟨by rw[h1.length,sizeLine_eq];omega,out,c,h1,by simpa[seqObj]using hc⟩),rfl,?_⟩
       refine p _ _ _ (Ext.lay d7) (G0.lay d7) ?_
       simp only[Rel]
       exact⟨_,_,rfl,.inl ⟨.inl aR,G0.fresh d7,G0.gK d7⟩,ae.ext (Ext.lay d7) _ h2⟩
     have run:∀(h':Heap) (tk:Nat),(∀b o,s.heap.get? b=some o->h'.get? b=some o)->2<=ah.length->(PySem.W.kas_sort ah.length).kasWp (PySem.W.kas_ask X.prog X.w X.A.in1.in1 (tuples' (tyB b)) ah) (λp s'=>s'={ s with heap:=h',toks:=tk }/\p=(dz ys).toArray) { s with heap:=h',toks:=tk }:=λh' tk hk h2=>by
       have I':Inv X pins σ H { s with heap:=h',toks:=tk }:=I.kept (t':=tk) hk
       refine TL.sO (lt:=λi j=>ltB (ys.getD i .ao) (ys.getD j .ao)) (N:=ah.length) (λi j hi hj C hC=>?_) _ (TL.iV (by omega)) ⟨rfl,?_⟩
       . have nt:i<ys.length:=by omega
         have nu:j<ys.length:=by omega
         obtain⟨vi,IT,ri⟩:=hr.get (List.getElem?_eq_getElem nt)
         obtain⟨vj,IU,rj⟩:=hr.get (List.getElem?_eq_getElem nu)
         obtain⟨ui,IV,IW⟩:=aN.get IT
         obtain⟨uj,IX,IY⟩:=aN.get IU
         unfold PySem.W.kas_ask
         have e1:ah.getD i .none=ui:=by simp[IV]
         have e2:ah.getD j .none=uj:=by simp[IX]
         have e3:ys.getD i .ao=ys[i]:=by simp[nt]
         have e4:ys.getD j .ao=ys[j]:=by simp[nu]
         rw[e1,e2]
         rw[e3,e4]at hC
         have mi:=List.getElem_mem nt
         have mj:=List.getElem_mem nu
         have ti:=hb (by omega) _ mi
         have tj:=hb (by omega) _ mj
         obtain⟨fi,di⟩:=d9 z2 (List.getElem?_eq_getElem nt)
         obtain⟨fj,dj⟩:=d9 z2 (List.getElem?_eq_getElem nu)
         obtain⟨k,sR⟩:=Option.isSome_iff_exists.mp (List.all_eq_true.mp (List.all_eq_true.mp z5 _ mi) _ mj)
         unfold ltB at hC
         rw[sR]at hC
         generalize ys[i]=Ri at *
         generalize ys[j]=Rj at *
         obtain⟨xi,xj,rfl,rfl,bi⟩:=ze ti tj
         simp only[Rel]at ri rj
         obtain⟨pi,wi,rfl,qi,zg⟩:=ri
         obtain⟨pj,wj,rfl,qj,zh⟩:=rj
         cases IW;cases IY
         obtain⟨ji,zj,⟨oi,IZ,_,Rk,I0⟩,_⟩:=I'.tuple qi.sq
         obtain⟨jj,zl,⟨oj,I_,_,Rl,Ja⟩,_⟩:=I'.tuple qj.sq
         refine PySem.W.kat_lt IZ I0 I_ Ja ?_
         have l1:ji.toArray.size=xi.length:=by rw[List.size_toArray,<- zj.length,zg.length]
         have l2:jj.toArray.size=xj.length:=by rw[List.size_toArray,<- zl.length,zh.length]
         simp only[ltN]at sR
         rw[l1,l2]
         simp only[dep]at di
         exact mn I' xi xj fi fj zg zh zj zl (by rw[in1_units,in1_units];omega) (λeD _=>bi eD) sR hC
       . unfold dz
         rw[hlen]
     refine TL.xa (κ:=tuples' (tyB b)) (p0:=(dz ys).toArray) (out:=if ah.length<2 then ah else(dz ys).map λi=>ah.getD i .none) (by omega) (λA' E' Q' Jn k=>w9 λR kR=>?_) (λh2 h' tk hk E R hR=>?_) (λh=>if_pos h) (λh=>by rw[if_neg (by omega)]) ?_ run ?_
     . refine PySem.W.kdl_extend (A:=A') (Fe sy) (Jn.trans hh) (Heap.get?_push_of_some _ ho) s.heap.objs.size (Nat.ne_of_gt (Heap.lt_size ho)) (Nat.ne_of_gt (Heap.lt_size ho)) _ 0 (Heap.get?_push_size _ rfl) (λh' tk fY c' hk hS hi=>?_) (by simpa using sz)
       have ea:fY.toList=ah:=by
         rw[<- hits]
         obtain⟨h1,h2⟩:=hi
         refine List.ext_getElem? λj=>?_
         rw[Array.getElem?_toList,List.getElem?_map]
         cases hj:fY[j]? with
         |none =>
          have:fY.size<=j:=Array.getElem?_eq_none_iff.mp hj
          rw[h1]at this
          simp at this
          simp[this]
         |some v =>
          obtain⟨e,he,rfl⟩:=h2 j v hj
          simp at he
          simp[he]
       refine kR h' tk fY c' hS ?_
       rw[ea]
       exact k h' tk (λb o e=>hk b o (Nat.ne_of_lt (Heap.lt_size e)) (Heap.get?_push_of_some _ e)) (Nat.le_of_lt (Heap.lt_size hS))
     . have I':Inv X pins σ H { s with heap:=h',toks:=tk }:=I.kept (t':=tk) hk
       obtain⟨fs,k1,k2,k3⟩:=mq I' ys hr aN (hb (by omega))
       refine PySem.W.kat_kind (T:=.type (CY b)) k1 (by omega) k3 (by simp) ?_
       rw[zd];exact hR
     . split
       . omega
       . rw[List.length_map,(cW (xs:=ys) (by omega)).length_eq,List.length_range];omega
     . by_cases h2:ah.length<2
       . rw[if_pos h2]
         exact fin ah vs aN (by unfold cN;rw[if_pos (by omega)];exact hr) (by omega)
       . rw[if_neg h2]
         refine fin _ _ (Vals.pick aN λi hi=>by rw[IS];exact pm (by omega) i hi) ?_ (by rw[List.length_map,(cW (xs:=ys) (by omega)).length_eq,List.length_range];omega)
         unfold cN
         rw[if_neg (by omega)]
         exact ae.w5 hr (pm (by omega))
   . cases q
 . exact Bv hu pins s σ H xs us Q I r ⟨ι,g,_,d,g',G0,r1,q,p⟩
end
end L3
namespace L3
open PySem PySem.Spec PyProof.Rows L2 SeqAt DK HX
noncomputable def iW:List D->List (D×D)
 |k::v::r=>(k,v)::iW r
 |_=>[]
theorem zG {K H ι}:∀{es:List DictEntry} {xs:List D} {i:Nat} {e:DictEntry},Ent K H ι xs es->es[i]? = some e->∃k v kv vv,(iW xs)[i]? = some (k,v)/\aP 6 k=true/\e.hash=hD K.w k/\Rel K H ι k kv/\RelV kv e.key/\Rel K H ι v vv/\RelV vv e.val
 | [],xs,i,e,h,q=>by simp at q
 |e0::es,xs,i,e,h,q=>by
  cases h with
  |cons h1 h2 h3 h4 h5 h6 h7 =>
   cases i with
   |zero=>simp at q;subst q;exact⟨_,_,_,_,rfl,h1,h2,h3,h4,h5,h6⟩
   |succ i =>
    obtain⟨k,v,kv,vv,a,r⟩:=zG h7 (i:=i) (by simpa using q)
    exact⟨k,v,kv,vv,by simpa[iW]using a,r⟩
theorem vB {K H ι}:∀{es:List DictEntry} {xs:List D},Ent K H ι xs es->(iW xs).length=es.length
 | [],xs,h=>by cases h;rfl
 |e::es,xs,h=>by
  cases h with
  |cons h1 h2 h3 h4 h5 h6 h7=>simp[iW,vB h7]
section
variable {X:Cx}{pins:List (Addr×Obj)}{σ:L2.St}{H:Hp}{ι:Ix}{s:Shared}{g:G}{a:Addr}{n:Nat}{xs:List D}{es:List DictEntry}{c:Nat}
theorem zH (I:Inv X pins σ H s)(hH:H a=some (dO a es c)){aW:List DictEntry}{c':Nat}{h':Heap}{tk:Nat}(hg:h'.get? a=some { cls:=.type "dict",data:=.dict aW.toArray (aW.length-c') })(sb:Heap.SameBut a s.heap h'):
  Inv X pins σ (upd H a (dO a aW c')) { s with heap:=h',toks:=tk }:=by
 refine I.write (x:=a) (e:=a) (o:=dO a aW c') (t':=tk) (by rw[hH];exact True.intro) (.inl rfl) (λb u hb q=>?_) ⟨_,hg⟩ ⟨hg,⟨_,hg⟩,λh1 h2 q k=>k _ q⟩
 rw[sb.2 b hb];exact q
theorem xb {A:Around}{E:Value->Shared->Prop}{key:D}{x:V}{u:Value}{hh:Int}(I:Inv X pins σ H s)(hu:A.units+8<cLine)(hH:H a=some (dO a es c))(eP:c<=es.length)(hz:es.length<=sizeLine)(en:Ent X.kw H ι xs es)(nd:(aJ xs).Nodup)(hk:aP 6 key=true)(r:Rel X.kw H ι key x)(ru:RelV x u)(he:hh=hD X.w key){v:D}{vv:V}{z:Value}(rv:Rel X.kw H ι v vv)(rz:RelV vv z){Q:Unit->Shared->Prop}
   (h:∀h' aW,Ent X.kw H ι (cE xs key v) aW->(aJ (cE xs key v)).Nodup->aW.length<=es.length+1->c<=aW.length->h'.get? a=some { cls:=.type "dict",data:=.dict aW.toArray (aW.length-c) }->Heap.SameBut a s.heap h'->Q () { s with heap:=h' }):
   wpAny (model X.prog X.w) A (dictSetHashed a u hh z) Q E s:=by
 subst he
 have ho:=dN I hH
 unfold dictSetHashed
 refine wpAny_holding (wpAny_bind (kK ho rfl (fq I hu en nd hk r ru) (λy=>?_) (λi hi ht=>?_)))
 . obtain⟨_,yU⟩:=en.none_ (key:=key) λi hi=>y i (by simpa using hi)
   obtain⟨e1,e2⟩:=Ent.push (e:=⟨hD X.w key,u,z⟩) hk rfl r ru rv rz en
   refine wpAny_bind (wpAny_rule (wpAny_updateDictKeys (hz:=by simpa using hz) ho rfl ?_))
   refine h _ (es ++ [⟨hD X.w key,u,z⟩]) (by rw[yU];exact e1) ?_ (by simp) (by simp;omega) ?_ (Heap.SameBut.update ..)
   . rw[yU,e2,List.nodup_append]
     refine⟨nd,by simp,λk yE k' yV=>?_⟩
     simp at yV;subst yV
     rintro rfl
     obtain⟨i,hi,e⟩:=List.mem_iff_getElem.mp yE
     have iM:i<es.length:=by rw[<- en.len];exact hi
     obtain⟨k,kv,a1,b1,_,_,_,g⟩:=en.at (List.getElem?_eq_getElem iM)
     rw[List.getElem?_eq_getElem hi,e]at b1
     cases b1
     have:=y i (by simpa using iM)
     rw[g,(fS _ _ hk hk).mpr rfl]at this
     cases this
   . have q:=Heap.get?_update_self (h:=s.heap) (Obj.mapDictKeys (·.push ⟨hD X.w key,u,z⟩)) ho rfl
     rw[q];simp[Obj.mapDictKeys];omega
 . have K:=fq I hu en nd hk r ru (A:=A)
   obtain⟨e,v0,Q_,h1,h2,h3,h4,_,h5⟩:=en.mV (key:=key) (by simpa using hi) ht λj hj y=>(K.un i j hi (by simpa using hj) ht y).symm
   obtain⟨h6,h7⟩:=h5 v vv z rv rz
   refine wpAny_bind (wpAny_rule (wpAny_bind (wpAny_updateDict ho rfl ?_)))
   refine wpAny_point ?_
   refine h _ (es.modify i λe=>{ e with val:=z }) h6 (by rw[h7];exact nd) (by simp) (by simpa using eP) ?_ (Heap.SameBut.update ..)
   have q:=Heap.get?_update_self (h:=s.heap) (Obj.mapDict (·.modify i λe=>{ e with val:=z })) ho rfl
   rw[q];simp[Obj.mapDict]
theorem BG {g g1:G}{n:Nat}{k v:D}(h:gV (.aI n) k v g=some g1):∃xs,g[n]? = some xs/\aP 6 k=true/\mY xs=true/\g1=g.set n (cE xs k v):=by
 simp only[gV]at h
 obtain⟨xs,hx,h⟩:=bind_some h
 split at h
 . rename_i hk
   simp only[Bool.and_eq_true]at hk
   cases h
   exact⟨xs,hx,hk.1,hk.2,rfl⟩
 . cases h
theorem Fi {A:Around}{E:Value->Shared->Prop}{nm:String}{b:Addr}{m:Nat}{ys:List D}{g':G}{P:Unit->Shared->Prop}(hu:A.units+8<cLine)(I:Inv X pins σ H s)(G0:ak X.kw H ι g)(ha:cj ι n a true)(hb:cj ι m b true)(cY:n≠m)(hx:g[n]? = some xs)(rC:xs ≠ [])(hy:g[m]? = some ys)(hq:L3.putAll n (iW ys) g=some g')
   (h:∀s' H',Inv X pins σ H' s'->Ext H ι H' ι->ak X.kw H' ι g'->P () s'):wpAny (model X.prog X.w) A (Builtin.Dict.mergeDict nm a b) P E s:=by
 obtain⟨ML,RE,ca,vC,Ow,Jt,Ju,Jv,RF,MM,RG,Jw⟩:=G0.iJ hx ha
 obtain⟨cZ,RH,cb,C3,S_,Ta,RJ,RK,MN,RL,Tp,RM⟩:=G0.iJ hy hb
 have MO:=Ent.of RJ RK RM
 have Jx:=Ent.of Ju Jv Jw
 have lF:a≠b:=λe=>by
   subst e
   obtain⟨hi,e1⟩:=List.getElem?_eq_some_iff.mp ha.1
   obtain⟨hj,e2⟩:=List.getElem?_eq_some_iff.mp hb.1
   exact cY ((List.getElem_inj G0.nd).mp (e1.trans e2.symm))
 have Jy:=dN I C3
 have zI:=dN I vC
 unfold Builtin.Dict.mergeDict
 rw[if_neg (by simpa using lF)]
 unfold Builtin.Dict.showsAll
 rw[if_neg (by rw[RL];exact Bool.false_ne_true)]
 refine wpAny_bind (wpAny_pure ?_)
 refine wpAny_bind (wpAny_dictEntries Jy rfl ?_)
 have MP:=vB MO
 have loop:wpAny (model X.prog X.w) A (do
     let Lu <- dictEpoch b
     let l <- dictEntries b
     forIn [:l.size] PUnit.unit λi (_:PUnit)=>(do
        let l' <- dictEntries b
        match l'[i]? with
         |some e=>do
          holding [e.key,e.val] (dictSetHashed a e.key e.hash e.val)
          let xG <- dictEpoch b
          if(xG != Lu)=true then do
            (unsupported (toString nm++toString ":source-changed-during-callback"):Sem PUnit)
            pure (ForInStep.yield PUnit.unit)
           else pure (ForInStep.yield PUnit.unit)
         |_=>do
          (unsupported "internal:dict-merge":Sem PUnit)
          pure (ForInStep.yield PUnit.unit):Sem (ForInStep PUnit))
     pure ()) P E s:=by
   refine wpAny_bind (wpAny_dictEpoch Jy rfl ?_)
   refine wpAny_bind (wpAny_dictEntries Jy rfl ?_)
   refine wpAny_bind ?_
   rw[Std.Legacy.Range.forIn_eq_forIn_range']
   simp only[Std.Legacy.Range.size,Nat.sub_zero,Nat.add_sub_cancel,Nat.div_one]
   have cX:cZ.toArray.size=cZ.length:=by simp
   refine wpAny_forIn_list _
     (λrest _ s'=>∃i H1 g1,rest=List.range' i (cZ.toArray.size-i)/\i<=cZ.toArray.size/\Inv X pins σ H1 s'/\Ext H ι H1 ι/\ak X.kw H1 ι g1/\H1 b=some (dO b cZ cb)/\L3.putAll n ((iW ys).drop i) g1=some g')
     _ ?_ ?_ _ _ ⟨0,H,g,by simp,Nat.zero_le _,I,Ext.refl,G0,C3,by simpa using hq⟩
   . rintro j rest u0 s' ⟨i,H1,g1,hr,hi,I1,e1,G1,Jz,kn⟩
     have aU:i<cZ.toArray.size:=by
      rcases Nat.lt_or_ge i cZ.toArray.size with h|h
      . exact h
      . rw[Nat.sub_eq_zero_of_le h]at hr;simp at hr
     obtain⟨rfl,Lv⟩:j=i/\rest=List.range' (i+1) (cZ.toArray.size-(i+1)):=by
      have e:cZ.toArray.size-i=(cZ.toArray.size-(i+1))+1:=by omega
      rw[e,List.range'_succ]at hr
      injection hr with h1 h2
      exact⟨h1,h2⟩
     have Ox:=dN I1 Jz
     refine wpAny_bind (wpAny_dictEntries Ox rfl ?_)
     rw[Array.getElem?_eq_getElem aU]
     have mL:j<cZ.length:=by omega
     obtain⟨k,v,kv,vv,yg,hk,RN,rk,Je,rv,Jf⟩:=zG MO (i:=j) (e:=cZ[j]) (List.getElem?_eq_getElem mL)
     have RO:cZ.toArray[j]=cZ[j]:=by simp
     have Jd:(iW ys).drop j=(k,v)::(iW ys).drop (j+1):=by
      have hl:j<(iW ys).length:=by rw[MP];exact mL
      rw[List.drop_eq_getElem_cons hl]
      rw[List.getElem?_eq_getElem hl]at yg
      rw[Option.some.inj yg]
     rw[Jd]at kn
     simp only[L3.putAll]at kn
     obtain⟨g2,CG,j8⟩:=bind_some kn
     obtain⟨Tq,MQ,_,Cy,rfl⟩:=BG CG
     obtain⟨Tr,Ts,c1,C4,Oy,Oz,OA,RP,JA,RQ,tm,RR⟩:=G1.iJ MQ (e1.at ha)
     have MS:=Ent.of OA RP RR
     have hz:=aC.le Cy
     rw[n9 MS]at hz
     show wpAny _ _ (holding [cZ.toArray[j].key,cZ.toArray[j].val] (dictSetHashed a cZ.toArray[j].key cZ.toArray[j].hash cZ.toArray[j].val) >>= _) _ _ _
     rw[RO]
     refine wpAny_bind (wpAny_holding (xb I1 hu C4 Oz tm MS JA hk (Rel.ext e1 _ rk) Je RN (Rel.ext e1 _ rv) Jf λh' aW f1 f2 f3 f0 f4 f5=>?_))
     have I2:=me (tk:=s'.toks) I1 C4 f4 f5
     have zJ:upd H1 a (dO a aW c1) b=some (dO b cZ cb):=by rw[aL (Ne.symm lF)];exact Jz
     have OB:=dN I2 zJ
     refine wpAny_bind (wpAny_dictEpoch OB rfl ?_)
     rw[if_neg (by simp)]
     exact wpAny_pure ⟨j+1,_,_,Lv,aU,I2,e1.trans (Ext.put (e1.at ha) C4),mf G1 (e1.at ha) Oy C4 f1 f2 RQ f0 (by omega),zJ,j8⟩
   . rintro u0 s' ⟨i,H1,g1,hr,hi,I1,e1,G1,Jz,kn⟩
     have de:i=cZ.toArray.size:=by
      rcases Nat.lt_or_ge i cZ.toArray.size with h|h
      . have e:cZ.toArray.size-i=(cZ.toArray.size-(i+1))+1:=by omega
        rw[e,List.range'_succ]at hr;exact nomatch hr
      . exact Nat.le_antisymm hi h
     rw[List.drop_of_length_le (by rw[MP];omega)]at kn
     cases kn
     exact wpAny_pure (h _ _ I1 e1 G1)
 dsimp only
 split
 . refine wpAny_bind (wpAny_dictEntries zI rfl ?_)
   split
   . rename_i OC
     exfalso
     have h0:ML = []:=by simpa using OC
     subst h0
     cases Jx
     exact rC rfl
   . exact loop
 . exact loop
theorem BH {A:Around}{E:Value->Shared->Prop}{nm:String}{b:Addr}{m:Nat}{ys:List D}{P:Unit->Shared->Prop}(I:Inv X pins σ H s)(G0:ak X.kw H ι g)(ha:cj ι n a true)(hb:cj ι m b true)(cY:n≠m)(hx:g[n]? = some [])(hy:g[m]? = some ys)(ho:w8 ys=true)
   (h:∀s' H' ι',Inv X pins σ H' s'->Ext H ι H' ι'->ak X.kw H' ι' (g.set n ys)->P () s'):wpAny (model X.prog X.w) A (Builtin.Dict.mergeDict nm a b) P E s:=by
 obtain⟨sx,i0,v0,r0,rfl⟩:∃x i v r,ys = .tup [.str x,.int i]::v::r:=by
   unfold w8 at ho
   split at ho
   . exact⟨_,_,_,_,rfl⟩
   . cases ho
 have ho:kO sx (.tup [.str sx,.int i0]::v0::r0)=true:=ho
 obtain⟨ML,RE,ca,vC,Ow,Jt,Ju,Jv,RF,MM,RG,Jw⟩:=G0.iJ hx ha
 obtain⟨es,vs,c,hH,mX,eP,pd,pz,nd,sy,sz,rl⟩:=G0.iJ hy hb
 have Jx:=Ent.of Ju Jv Jw
 cases Jx
 have RS:ca=0:=by simpa using Jt
 subst RS
 obtain⟨RT,Tb⟩:=pA pz nd (Fd ho)
 have lF:a≠b:=λe=>by
   subst e
   obtain⟨hi,e1⟩:=List.getElem?_eq_some_iff.mp ha.1
   obtain⟨hj,e2⟩:=List.getElem?_eq_some_iff.mp hb.1
   exact cY ((List.getElem_inj G0.nd).mp (e1.trans e2.symm))
 have JB:=dN I hH
 have zI:=dN I vC
 unfold Builtin.Dict.mergeDict
 rw[if_neg (by simpa using lF)]
 unfold Builtin.Dict.showsAll
 rw[if_neg (by rw[sy];exact Bool.false_ne_true)]
 refine wpAny_bind (wpAny_pure ?_)
 refine wpAny_bind (wpAny_dictEntries JB rfl ?_)
 have keys:∀e∈es,∃a ah,e.key = .ref a/\IsTup s.heap a ah:=λe he=>by
   have en:=Ent.of pd pz rl
   obtain⟨i,hi,ei⟩:=List.mem_iff_getElem.mp he
   obtain⟨k,kv,_,h2,_,h4,h5,_⟩:=en.at (by rw[List.getElem?_eq_getElem hi,ei])
   obtain⟨j,_,rfl⟩:=ij ho k (List.mem_of_getElem? h2)
   simp only[Rel]at h4
   obtain⟨a,us,rfl,RU,_⟩:=h4
   have h5:e.key = .ref a:=h5
   obtain⟨ah,_,pt,_⟩:=I.tuple RU.sq
   exact⟨a,_,h5,pt⟩
 obtain⟨e0,iX,rfl⟩:∃e aW,es=e::aW:=by cases pz with|cons _ _ _=>exact⟨_,_,rfl⟩
 have RV:(decide ((e0::iX).toArray.size<=8)&&(e0::iX).toArray.all λe=>(keyPart e.key).isSome)=false:=by
   obtain⟨a,_,e1,_⟩:=keys e0 List.mem_cons_self
   rw[Bool.and_eq_false_iff]
   right
   simp[e1,keyPart]
 rw[RV]
 simp only[Bool.not_false,if_true]
 refine wpAny_bind (wpAny_dictEntries zI rfl ?_)
 rw[if_pos (by rfl)]
 refine wpAny_bind ?_
 unfold Builtin.Dict.entriesForEmpty
 refine wpAny_bind (wpAny_dictEntries JB rfl ?_)
 rw[<- Array.forIn_toList]
 refine wpAny_bind (wpAny_forIn_list _ (λrest _ s'=>s'=s /\ ∀e∈rest,e∈(e0::iX)) _ ?_ ?_ _ _ ⟨rfl,λe he=>by simpa using he⟩)
 . rintro x rest b s' ⟨rfl,cu⟩
   obtain⟨a,ah,e1,pt⟩:=keys x (cu x List.mem_cons_self)
   refine wpAny_bind ?_
   unfold Builtin.Dict.quietEq
   rw[e1]
   refine wpAny_bind (wpAny_specialOf pt.typeIs F.slot_tuple_eq.lookup (wpAny_pure ?_))
   rw[if_pos (by decide),if_neg (by
     have:=BC RT x.hash
     have e2:((e0::iX).toArray.filter λy=>y.hash == x.hash).size=((e0::iX).filter λy=>y.hash == x.hash).length:=by simp
     omega)]
   exact wpAny_pure ⟨rfl,λe he=>cu e (List.mem_cons_of_mem _ he)⟩
 . rintro b s' ⟨rfl,_⟩
   refine wpAny_pure ?_
   rw[if_pos (by rfl)]
   refine wpAny_bind (wpAny_updateDictKeysTo zI rfl (wpAny_pure ?_) (by simp only[List.size_toArray];omega))
   have yi:(s'.heap.update a (Obj.mapDictKeys λ_=>(e0::iX).toArray)).get? a=some { cls:=.type "dict",data:=.dict (e0::iX).toArray ((e0::iX).length-iX.length) }:=by
     rw[Heap.get?_update_self (h:=s'.heap) (Obj.mapDictKeys λ_=>(e0::iX).toArray) zI rfl]
     simp[Obj.mapDictKeys]
   have I1:=zH (tk:=s'.toks) I vC yi (Heap.SameBut.update ..)
   exact h _ _ (ι.Hi n (iX.length+1)) I1 (Ext.putK ha vC rfl) (G0.putK ha vC rfl (.d iX.length (e0::iX) vs (by simp) pd pz nd MM sz) rl)
end
noncomputable def fw (d:D)(ds:List D)(g:G):Option (D×G):=match d,ds with
 |.aI n,[.aI m]=>(g[n]?).bind λxs=>(g[m]?).bind λys=>if n=m then none else match xs with
  | []=>if w8 ys=true then some (.ao,g.set n ys)else none
  |_=>(L3.putAll n (iW ys) g).map λg'=>(.ao,g')
 |_,_=>none
theorem JC {X:Cx}(hu:X.A.units+64<cLine):MR X "dict" "update" "dict.update" fJ fw where
 pa:=PySem.F.plainAttrs_dict
 slot:=PySem.F.slot_dict_update
 ty:=PySem.F.type_dict_update
 is:=sf
 run:=by
  intro pins s σ H x xs v us Q I rx rs q
  obtain⟨ι,g,d,ds,d',g',G0,r1,rl,hT,q,p⟩:=q
  have B9:=(sf I G0 r1 rx hT).1
  unfold fw at q
  split at q
  . rename_i n m
    obtain⟨zs,hx,q⟩:=bind_some q
    obtain⟨ys,hy,q⟩:=bind_some q
    split at q
    . cases q
    . rename_i cY
      simp only[Rel]at r1
      obtain⟨a,rfl,ha⟩:=r1
      cases rx
      simp only[ae,Rel]at rl
      obtain⟨w0,_,rfl,⟨b,rfl,hb⟩,rfl⟩:=rl
      obtain⟨u,rfl,ru⟩:=vals1 rs
      cases ru
      have Tt:fJ (.aI m)=true:=rfl
      obtain⟨cZ,RH,cb,C3,_⟩:=G0.iJ hy hb
      have JD:s.TypeIs (.ref b) "dict":=qa I C3
      refine wpAny_call_entry PySem.F.slot_dict_update B9 PySem.F.entry_dict_update ?_ (PySem.F.args_dict_update_2 _ _)
      unfold Builtin.«dict.update»
      refine wpAny_bind ?_
      unfold Builtin.Dict.selfAndRest
      refine wpAny_bind (wpAny_notOrdered_dict B9 ?_)
      show wpAny _ _ (pure (a,[Value.ref b])) _ _ s
      refine wpAny_pure ?_
      show wpAny _ _ (Builtin.Dict.updateFrom "dict.update" a (.ref b) [] .none) _ _ s
      unfold Builtin.Dict.updateFrom
      refine wpAny_bind (wpAny_typeOf JD ?_)
      rw[if_neg (by decide)]
      refine wpAny_bind ?_
      unfold Builtin.Dict.merge
      refine wpAny_bind ?_
      unfold Builtin.Dict.readDirectly
      refine wpAny_bind (wpAny_isInstance JD isSubtype_dict_dict ?_)
      simp only[Bool.not_true,Bool.false_eq_true,if_false]
      refine wpAny_bind (wpAny_specialOf JD F.slot_dict_iter.lookup (wpAny_pure ?_))
      simp only[beq_self_eq_true,if_true]
      refine wpAny_bind (wpAny_pure ?_)
      have fin:∀(s':Shared) (H':Hp) (ι':Ix),d' = .ao->Inv X pins σ H' s'->Ext H ι H' ι'->ak X.kw H' ι' g'->wpAny (model X.prog X.w) X.A.in1 (Builtin.Dict.addKeywords a [] >>= λ_=>ret Value.none) (λf s2=>∃v,f = .done (.ret v)/\EP X pins σ Q v s2) X.xe s':=λs' H' ι' e I' e' G'=>by
        subst e
        exact wpAny_bind (wpAny_pure (wpAny_pure ⟨_,rfl,.ao,H',I',rfl,p H' ι' _ e' G' (by simp[Rel])⟩))
      split at q
      . split at q
        . rename_i ho
          cases q
          exact BH I G0 ha hb cY hx hy ho λs' H' ι' I' e' G'=>fin s' H' ι' rfl I' e' G'
        . cases q
      . rename_i hz
        obtain⟨g2,hq,e⟩:=Option.map_eq_some_iff.mp q
        cases e
        exact Fi (by rw[in1_units];omega) I G0 ha hb cY hx (λz=>hz z) hy hq λs' H' I' e' G'=>fin s' H' ι rfl I' e' G'
  . cases q
end L3
namespace RI
open PySem PySem.Spec PyProof.Rows L2 L3
noncomputable def JE:fK:=⟨"sorted",dW,λhr _=>.inl ⟨_,BF hr.hd hr.units,boot_sorted⟩⟩
noncomputable def Lw:nc:=⟨"update",fJ,fw,λhr=>⟨_,_,JC hr.units⟩⟩
end RI
namespace K06
open PySem PySem.Spec PyProof.Rows L2 L3 RI
noncomputable def top (i:Nat):Stmt:=PySem.Challenge.pw_wholeglance_k06_first_boxes.main.body.getD i (.Pass ⟨0,0,0,0⟩)
noncomputable def JF:bo:=⟨"number_of",["manner","name"],["manner","name"],top 2,false,[],false⟩
noncomputable def JG:bo:=⟨"hands_of",["manner"],["manner"],top 3,false,[],false⟩
noncomputable def JH:bo:=⟨"places_of",["manner"],["manner"],top 4,false,[],false⟩
noncomputable def JI:bo:=⟨"first_boxes",["manner"],["manner"],top 6,false,[],false⟩
noncomputable def JJ:bo:=⟨"listed_boxes",["manner"],["manner","word","boxes"],top 7,false,[],false⟩
noncomputable def JK:bo:=⟨"shared_boxes",["manner"],["manner","boxes","views"],top 8,false,[],false⟩
noncomputable def JL:bo:=⟨"own_content",["manner"],["manner","word","nothing_seen"],top 9,false,[],false⟩
noncomputable def JM:bo:=⟨"shake_boxes",["manner","words"],["manner","words","boxes","word"],top 10,false,["boxes"],false⟩
noncomputable def JN:bo:=⟨"single_boxes",["word","count","content"],["word","count","content"],top 11,false,[],false⟩
noncomputable def JO:bo:=⟨"crossed_boxes",["word","hands"],["word","hands","boxes","one"],top 12,false,["boxes"],false⟩
noncomputable def C5:bo:=⟨"zeros",["count"],["count"],top 13,false,[],false⟩
noncomputable def C6:bo:=⟨"_law_hand",["_law_script","_law_k"],["_law_script","_law_k","_law_cell"],top 15,true,[],false⟩
noncomputable def C7:bo:=⟨"_law_take",["_law_hand_here","_law_many"],["_law_hand_here","_law_many","_law_digit","_law_turn","_law_mixed","_law_other"],top 16,false,["_law_hand_here"],false⟩
noncomputable def C8:bo:=⟨"_law_pick",["_law_hand_here","_law_some"],["_law_hand_here","_law_some"],top 17,false,[],false⟩
noncomputable def C9:bo:=⟨"_law_manner",["_law_hand_here","_law_hands"],["_law_hand_here","_law_hands","_law_way","_law_turn","_law_moves","_law_bits"],top 18,false,[],false⟩
noncomputable def C_:bo:=⟨"_law_table",["_law_hand_here","_law_boxes","_law_hands","_law_look"],["_law_hand_here","_law_boxes","_law_hands","_law_look","_law_many","_law_rows","_law_k","_law_box","_law_row","_law_contents"],top 19,false,["_law_rows"],false⟩
noncomputable def Dd:bo:=⟨"_law_tables",["_law_hand_here","_law_hands"],["_law_hand_here","_law_hands","_law_boxes","_law_puts"],top 20,false,[],false⟩
noncomputable def De:bo:=⟨"_law_pairs",["_law_word","_law_hands"],["_law_word","_law_hands","_law_found","_law_i","_law_j"],top 21,true,["_law_found","*_law_found"],false⟩
noncomputable def Df:bo:=⟨"_law_due",["_law_manner_here"],["_law_manner_here","_law_boxes","_law_hands","_law_none","_law_h"],top 22,false,["_law_boxes","*_law_boxes"],false⟩
noncomputable def Dg:bo:=⟨"law",["_law_script"],["_law_script","_law_k","_law_hand_here","_law_turn","_law_manner_here","_law_found"],top 23,false,[],false⟩
noncomputable def ds:List bo:=[JF,JG,JH,JI,JJ,JK,JL,JM,JN,JO,C5,C6,C7,C8,C9,C_,Dd,De,Df,Dg]
noncomputable def iD:List (Str×D):=[("once",.tup [.str "hands"]),("twice",.tup [.str "hands",.str "turn"]),("handed",.tup [.str "hands",.str "turn",.str "moves"]),("signs",.tup [.str "hands",.str "toggles",.str "shakes",.str "moves"]),("shared",.tup [.str "hands",.str "places",.str "toggles",.str "shakes",.str "moves"]),("tables",.tup [.str "hands",.str "boxes"])]
noncomputable def pk:Pk:=⟨[N_,Oc,Od,Oa,Ob,Lm,JE,Lr],[],[Bw,BB,E_,Lw],[E5],[Oe,Lo,Ln,Of,Ov,Js]⟩
noncomputable def mo:Mo:=⟨ds,["len","max","min","int","tuple","repr","sorted","dict","set","range","isinstance"],[],[("NUMBERS",iD)],pk,1000000⟩
noncomputable def RW (T:Nat->Fn):FS:=aH (ai aD (ab 0) (ai aO (fC (.int 1)) (pZ iD (ai aD (ab 0) (fC (.int 0))) (ab 1))))
noncomputable def RX (T:Nat->Fn):FS:=aH (ag (T 0) (aa (ab 0) (aa (fC (.str "hands")) af)))
noncomputable def RY (T:Nat->Fn):FS:=aj (a_ (ay (ai oEq (ai aD (ab 0) (fC (.int 0))) (fC (.str "shared")))) (aH (ag (T 0) (aa (ab 0) (aa (fC (.str "places")) af)))) aF) (aH (ag (T 1) (aa (ab 0) af)))
noncomputable def RZ (T:Nat->Fn):FS:=aH (ag cD (aa (ag dW (aa (ag (T 4) (aa (ab 0) af)) af)) af))
noncomputable def R0 (T:Nat->Fn):FS:=aj (ax (ai aD (ab 0) (fC (.int 0))) (gN 1)) (aj (a_ (ay (ai oEq (ab 1) (fC (.str "tables")))) (aH (ag (T 8) (aa (fC (.str "box")) (aa (ag (T 0) (aa (ab 0) (aa (fC (.str "boxes")) af))) (aa (fC (.int 0)) af))))) aF) (aj (a_ (ay (ai oEq (ab 1) (fC (.str "shared")))) (aH (ag (T 5) (aa (ab 0) af))) aF) (aj (ax (ag (T 8) (aa (fC (.str "own")) (aa (ag (T 1) (aa (ab 0) af)) (aa (ag (T 6) (aa (ab 0) af)) af)))) (gN 2)) (aj (a_ (ay (ai oEq (ab 1) (fC (.str "signs")))) (aH (ai aO (ab 2) (ag (T 7) (aa (ab 0) (aa (aA aq (aa (fC (.str "sign")) af)) af))))) aF) (aH (ab 2))))))
noncomputable def R1 (T:Nat->Fn):FS:=aj (ax (ag (T 8) (aa (fC (.str "box")) (aa (ag (T 2) (aa (ab 0) af)) (aa (aA aq (aa (fC (.int 0)) (aa (j5 eW (fC (.int 1))) (aa (fC (.int 0)) af)))) af)))) (gN 1)) (aj (ax (ag (T 8) (aa (fC (.str "view")) (aa (ag (T 1) (aa (ab 0) af)) (aa (ag (T 10) (aa (ag (T 2) (aa (ab 0) af)) af)) af)))) (gN 2)) (aH (ai aO (ai aO (ab 1) (ab 2)) (ag (T 7) (aa (ab 0) (aa (aA aq (aa (fC (.str "call")) (aa (fC (.str "sign")) af))) af))))))
noncomputable def R3 (T:Nat->Fn):FS:=aj (ax (ai aD (ab 0) (fC (.int 0))) (gN 1)) (aj (a_ (ay (ai oEq (ab 1) (fC (.str "once")))) (aH (fC (.int 0))) aF) (aj (a_ (ay (ai oEq (ab 1) (fC (.str "twice")))) (aH (aA aq (aa (fC (.int 0)) (aa (fC (.int 0)) af)))) aF) (aj (ax (ag (T 10) (aa (ag (T 1) (aa (ab 0) af)) af)) (gN 2)) (aj (a_ (ay (ai oEq (ab 1) (fC (.str "handed")))) (aH (aA aq (aa (fC (.int 0)) (aa (fC (.int 0)) (aa (ab 2) af))))) aF) (aH (aA aq (aa (fC (.int 0)) (aa (ab 2) (aa (fC (.int 0)) (aa (ab 2) af))))))))))
noncomputable def R4 (T:Nat->Fn):FS:=aj (ax (aA mkRef af) (gN 2)) (aj (a_ (ay (ai oEq (ag (T 0) (aa (ab 0) (aa (fC (.str "shakes")) af))) (fC (.int 1)))) (cK (eX (ab 1)) (gN 3) (cL (dn isRef dA (ab 2) (aa (ag (T 9) (aa (ab 3) (aa (ag (T 1) (aa (ab 0) af)) af))) af)))) aF) (aH (ab 2)))
noncomputable def R5 (T:Nat->Fn):FS:=aH (bp bA (bP (aa (ab 1) af)) [none,none,some 2,some 0] (gN 1) bw (aA aq (aa (aA aq (aa (ab 3) (aa (ab 1) af))) (aa (ab 2) af))))
noncomputable def R6 (T:Nat->Fn):FS:=aj (ax (aA mkRef af) (gN 2)) (aj (cK (bP (aa (ab 1) af)) (gN 3) (cL (dn isRef dA (ab 2) (aa (bp bA (bP (aa (ab 1) af)) [none,none,some 3,some 0] (gN 1) (ay (ai iA (ab 1) (ab 2))) (aA aq (aa (aA aq (aa (ab 3) (aa (ab 2) (aa (ab 1) af)))) (aa (fC (.int 0)) af)))) af)))) (aH (ab 2)))
noncomputable def OD (T:Nat->Fn):FS:=aH (ai b6 (aA aq (aa (fC (.int 0)) af)) (ab 0))
noncomputable def OE (T:Nat->Fn):FS:=aj (ax (fC (.int 0)) (gN 2)) (aj (a_ (ay (ai oLt (ab 1) (ag iz (aa (ab 0) af)))) (ax (ai aD (ab 0) (ab 1)) (gN 2)) aF) (aH (aA mkRef (aa (ai b6 (ab 2) (ag dY (aa (ai yF (ab 2) (ai (bQ jm (λi j=>i ^ j.toNat)) (fC (.int 10)) (fC (.int 18)))) af))) (aa (ai aO (ai aO (ai (bQ bT (· % ·)) (ab 2) (fC (.int 2305843009213693951))) (ai b6 (fC (.int 7919)) (ab 1))) (fC (.int 3))) (aa (fC (.int 0)) af))))))
noncomputable def OF (T:Nat->Fn):FS:=aj (a_ (ay (ai rQ (ai aD (ab 0) (fC (.int 0))) (fC (.int 0)))) (aj (ax (ai (bQ bT (· % ·)) (ai aD (ab 0) (fC (.int 0))) (ab 1)) (gN 2)) (aj (ax (ai (bQ dw (· / ·)) (ai aD (ab 0) (fC (.int 0))) (ab 1)) (cS (ab 0) (fC (.int 0)))) (aH (ab 2)))) aF) (aj (ax (ai aO (ai aD (ab 0) (fC (.int 2))) (fC (.int 1))) (cS (ab 0) (fC (.int 2)))) (aj (ax (ai aD (ab 0) (fC (.int 2))) (gN 3)) (aj (ax (ai (bQ bT (· % ·)) (ai b6 (ai aD (ab 0) (fC (.int 1))) (ai aO (ai aO (fC (.int 48271)) (ai b6 (ai b6 (fC (.int 2)) (ab 3)) (ab 3))) (ai b6 (fC (.int 65537)) (ab 3)))) (fC (.int 2305843009213693921))) (gN 4)) (aj (ax (ai aO (ai aO (ai (bQ bT (· % ·)) (ab 4) (fC (.int 1000003))) (ai b6 (ab 3) (fC (.int 99991)))) (fC (.int 11))) (gN 5)) (aj (ax (ai (bQ bT (· % ·)) (ai b6 (ab 4) (ab 5)) (fC (.int 2305843009213693907))) (gN 4)) (aH (ai (bQ bT (· % ·)) (ai aO (ai (bQ dw (· / ·)) (ab 4) (fC (.int 97))) (ai (bQ dw (· / ·)) (ab 4) (fC (.int 1000033)))) (ab 1))))))))
noncomputable def OG (T:Nat->Fn):FS:=aH (ai aD (ab 1) (ag (T 12) (aa (ab 0) (aa (ag iz (aa (ab 1) af)) af))))
noncomputable def OH (T:Nat->Fn):FS:=aj (ax (ag (T 12) (aa (ab 0) (aa (fC (.int 6)) af))) (gN 2)) (aj (ax (ag (T 13) (aa (ab 0) (aa (aA cH (aa (fC (.int 0)) (aa (fC (.int 0)) (aa (fC (.int 2)) (aa (fC (.int 3)) (aa (fC (.int 7)) (aa (fC (.int 9)) af))))))) af))) (gN 3)) (aj (ax (ai aO (fC (.int 1)) (ag (T 12) (aa (ab 0) (aa (fC (.int 4)) af)))) (gN 4)) (aj (ax (aA aq (aa (ag (T 12) (aa (ab 0) (aa (fC (.int 2)) af))) (aa (ag (T 12) (aa (ab 0) (aa (fC (.int 2)) af))) af))) (gN 5)) (aj (a_ (ay (ai oLt (ab 2) (fC (.int 2)))) (aH (ai aD (aA cH (aa (aA aq (aa (fC (.str "once")) (aa (ab 1) af))) (aa (aA aq (aa (fC (.str "twice")) (aa (ab 1) (aa (ab 3) af)))) af))) (ab 2))) aF) (aj (a_ (ay (ai oEq (ab 2) (fC (.int 2)))) (aH (aA aq (aa (fC (.str "handed")) (aa (ab 1) (aa (ab 3) (aa (ab 4) af)))))) aF) (aj (a_ (ay (ai oEq (ab 2) (fC (.int 3)))) (aH (ai aO (ai aO (aA aq (aa (fC (.str "signs")) (aa (ab 1) af))) (ab 5)) (aA aq (aa (ab 4) af)))) aF) (aH (ai aO (ai aO (aA aq (aa (fC (.str "shared")) (aa (ab 1) (aa (ai aO (fC (.int 1)) (ag (T 12) (aa (ab 0) (aa (fC (.int 4)) af)))) af)))) (ab 5)) (aA aq (aa (ab 4) af))))))))))
noncomputable def OI (T:Nat->Fn):FS:=aj (ax (ai aD (aA cH (aa (fC (.int 2)) (aa (fC (.int 3)) (aa (fC (.int 4)) (aa (fC (.int 5)) (aa (fC (.int 6)) (aa (fC (.int 8)) (aa (fC (.int 1)) (aa (fC (.int 40)) af))))))))) (ag (T 12) (aa (ab 0) (aa (fC (.int 8)) af)))) (gN 4)) (aj (ax (aA mkRef af) (gN 5)) (aj (cK (bP (aa (ab 4) af)) (gN 6) (aj (rW 7 8 (aa (ag (T 12) (aa (ab 0) (aa (ab 1) af))) (aa (ag (T 12) (aa (ab 0) (aa (ab 4) af))) af))) (a_ (cU (ay (ai rQ (ab 6) (fC (.int 0)))) (ay (ai oEq (ag (T 12) (aa (ab 0) (aa (fC (.int 3)) af))) (fC (.int 0))))) (cL (dn isRef eh (ab 5) (aa (ai aD (aA cH (aa (aA aq (aa (fC (.str "end")) af)) (aa (aA aq (aa (fC (.str "told")) (aa (ag cD (aa (bp bA (bP (aa (ab 2) af)) [none,none,some 0] (gN 1) bw (ag (T 12) (aa (ab 2) (aa (fC (.int 2)) af)))) af)) af))) af))) (ag dY (aa (ab 3) af))) af))) (a_ (ay (ai oEq (ag (T 12) (aa (ab 0) (aa (fC (.int 2)) af))) (fC (.int 0)))) (aj (ax (tu (bp bA (bP (aa (ag (T 12) (aa (ab 0) (aa (fC (.int 4)) af))) af)) [none,none,some 0] (gN 1) bw (ag (T 12) (aa (ab 2) (aa (fC (.int 10)) af))))) (gN 9)) (cL (dn isRef eh (ab 5) (aa (aA aq (aa (fC (.str "read")) (aa (ab 7) (aa (ag cD (aa (bp bA (eX (ab 9)) [none,none,some 0,some 4] (gN 1) bw (aA aq (aa (ab 1) (aa (ag (T 12) (aa (ab 2) (aa (ab 3) af))) af)))) af)) (aa (ab 8) af))))) af)))) (cL (dn isRef eh (ab 5) (aa (aA aq (aa (fC (.str "write")) (aa (ab 7) (aa (ag (T 12) (aa (ab 0) (aa (fC (.int 10)) af))) (aa (ab 8) af))))) af))))))) (aH (ag cD (aa (ab 5) af)))))
noncomputable def OJ (T:Nat->Fn):FS:=aj (ax (ai aO (fC (.int 1)) (ag (T 12) (aa (ab 0) (aa (fC (.int 4)) af)))) (gN 2)) (aj (ax (ag cD (aa (bp bA (bP (aa (ab 1) af)) [none,none,some 2,some 0,some 1] (gN 1) bw (ag (T 15) (aa (ab 3) (aa (ab 2) (aa (ab 4) (aa (fC (.bl false)) af)))))) af)) (gN 3)) (aH (aA aq (aa (fC (.str "tables")) (aa (ab 1) (aa (ab 2) (aa (ab 3) (aa (ag cD (aa (bp bA (bP (aa (ab 1) af)) [none,none,some 2,some 0,some 1] (gN 1) bw (ag (T 15) (aa (ab 3) (aa (ab 2) (aa (ab 4) (aa (fC (.bl true)) af)))))) af)) af))))))))
noncomputable def OK (T:Nat->Fn):FS:=aj (ax jy (gN 2)) (aj (cK (bP (aa (ab 1) af)) (gN 3) (cK (bP (aa (ab 1) af)) (gN 4) (a_ (ay (ai iA (ab 3) (ab 4))) (ax (fC (.int 0)) (cS (ab 2) (aA aq (aa (ab 0) (aa (ab 3) (aa (ab 4) af)))))) aF))) (aH (ab 2)))
noncomputable def OL (T:Nat->Fn):FS:=aj (ax jy (gN 1)) (aj (ax (ai aD (ab 0) (fC (.int 1))) (gN 2)) (aj (ax (ag cD (aa (bp bA (bP (aa (ab 2) af)) [none,none] (gN 1) bw (fC (.int 0))) af)) (gN 3)) (aj (cK (bP (aa (ab 2) af)) (gN 4) (aj (a_ (ay (ai oEq (ai aD (ab 0) (fC (.int 0))) (fC (.str "once")))) (ax (fC (.int 0)) (cS (ab 1) (aA aq (aa (fC (.str "own")) (aa (ab 4) af))))) aF) (aj (a_ (ay (ai oEq (ai aD (ab 0) (fC (.int 0))) (fC (.str "twice")))) (ax (aA aq (aa (fC (.int 0)) (aa (fC (.int 0)) af))) (cS (ab 1) (aA aq (aa (fC (.str "own")) (aa (ab 4) af))))) aF) (aj (a_ (ay (ai oEq (ai aD (ab 0) (fC (.int 0))) (fC (.str "handed")))) (ax (aA aq (aa (fC (.int 0)) (aa (fC (.int 0)) (aa (ab 3) af)))) (cS (ab 1) (aA aq (aa (fC (.str "own")) (aa (ab 4) af))))) aF) (aj (a_ (ay (ai oEq (ai aD (ab 0) (fC (.int 0))) (fC (.str "signs")))) (ax (aA aq (aa (fC (.int 0)) (aa (ab 3) (aa (fC (.int 0)) (aa (ab 3) af))))) (cS (ab 1) (aA aq (aa (fC (.str "own")) (aa (ab 4) af))))) aF) (a_ (ay (ai oEq (ai aD (ab 0) (fC (.int 0))) (fC (.str "shared")))) (ax (ag cD (aa (bp bA (bP (aa (ai aD (ab 0) (fC (.int 2))) af)) [none,none] (gN 1) bw (fC (.int 0))) af)) (cS (ab 1) (aA aq (aa (fC (.str "view")) (aa (ab 4) af))))) aF)))))) (aj (a_ (ay (ai md (ai aD (ab 0) (fC (.int 0))) (aA aq (aa (fC (.str "shared")) (aa (fC (.str "tables")) af))))) (cL (dn fJ fw (ab 1) (aa (ag jB (aa (bp bA (bP (aa (ai aD (ab 0) (fC (.int 2))) af)) [none,none,some 0] (gN 1) bw (aA aq (aa (aA aq (aa (fC (.str "box")) (aa (ab 1) af))) (aa (ai aD (aA cH (aa (fC (.int 0)) (aa (aA aq (aa (fC (.int 0)) (aa (j5 eW (fC (.int 1))) (aa (fC (.int 0)) af)))) af))) (ag dY (aa (ai oEq (ai aD (ab 2) (fC (.int 0))) (fC (.str "shared"))) af))) af)))) af)) af))) aF) (aj (a_ (cU (ay (ai md (ai aD (ab 0) (fC (.int 0))) (aA aq (aa (fC (.str "signs")) (aa (fC (.str "shared")) af))))) (ay (ai oEq (ai aD (ab 0) (j5 eW (fC (.int 2)))) (fC (.int 1))))) (cL (dn fJ fw (ab 1) (aa (ag (T 17) (aa (fC (.str "sign")) (aa (ab 2) af))) af))) aF) (aj (a_ (cU (ay (ai oEq (ai aD (ab 0) (fC (.int 0))) (fC (.str "shared")))) (ay (ai oEq (ai aD (ab 0) (j5 eW (fC (.int 2)))) (fC (.int 1))))) (cL (dn fJ fw (ab 1) (aa (ag (T 17) (aa (fC (.str "call")) (aa (ab 2) af))) af))) aF) (aH (ag cD (aa (bp bA (eX (ag dW (aa (ab 1) af))) [none,none,some 1] (gN 1) bw (aA aq (aa (ab 1) (aa (ai aD (ab 2) (ab 1)) af)))) af)))))))))
noncomputable def BI (T:Nat->Fn):FS:=aj (cK (bP (aa (ag nV (aa (fC (.int 2)) (aa (ag nW (aa (fC (.int 8)) (aa (ag iz (aa (ab 0) af)) af))) af))) af)) (gN 1) (aj (ax (ag (T 11) (aa (ab 0) (aa (ab 1) af))) (gN 2)) (cK (bP (aa (fC (.int 4)) af)) (gN 3) (aj (ax (ag (T 14) (aa (ab 2) (aa (ai aO (fC (.int 1)) (ag (T 12) (aa (ab 2) (aa (fC (.int 5)) af)))) af))) (gN 4)) (aj (a_ (ay (ai oEq (ab 3) (fC (.int 3)))) (ax (ag (T 16) (aa (ab 2) (aa (ai aO (fC (.int 1)) (ag (T 12) (aa (ab 2) (aa (fC (.int 5)) af)))) af))) (gN 4)) aF) (aj (ax (ag (T 3) (aa (ab 4) af)) (gN 5)) (a_ (yn (qW (qV (rN .tuple (ab 5)))) (ay (ai kr (ag ie (aa (ab 5) af)) (ag ie (aa (ag (T 18) (aa (ab 4) af)) af))))) (aH (fC (.bl false))) aF))))))) (aH (fC (.bl true)))
noncomputable def tab:Nat->Nat->Fn
 | 0,_=>λ_ _=>none
 |k+1,0=>(av false 2 2 (RW (tab k)))
 |k+1,1=>(av false 1 1 (RX (tab k)))
 |k+1,2=>(av false 1 1 (RY (tab k)))
 |k+1,3=>(av false 1 1 (RZ (tab k)))
 |k+1,4=>(av false 3 1 (R0 (tab k)))
 |k+1,5=>(av false 3 1 (R1 (tab k)))
 |k+1,6=>(av false 3 1 (R3 (tab k)))
 |k+1,7=>(av false 4 2 (R4 (tab k)))
 |k+1,8=>(av false 3 3 (R5 (tab k)))
 |k+1,9=>(av false 4 2 (R6 (tab k)))
 |k+1,10=>(av false 1 1 (OD (tab k)))
 |k+1,11=>(av true 3 2 (OE (tab k)))
 |k+1,12=>(av false 6 2 (OF (tab k)))
 |k+1,13=>(av false 2 2 (OG (tab k)))
 |k+1,14=>(av false 6 2 (OH (tab k)))
 |k+1,15=>(av false 10 4 (OI (tab k)))
 |k+1,16=>(av false 4 2 (OJ (tab k)))
 |k+1,17=>(av true 5 2 (OK (tab k)))
 |k+1,18=>(av false 5 1 (OL (tab k)))
 |k+1,19=>(av false 6 1 (BI (tab k)))
 |_+1,_=>λ_ _=>none
theorem R7 (k:Nat):tab (k+1) 0=JF.run mo (tab k) k:=by kernel_rfl
theorem R8 (k:Nat):tab (k+1) 1=JG.run mo (tab k) k:=by kernel_rfl
theorem R9 (k:Nat):tab (k+1) 2=JH.run mo (tab k) k:=by kernel_rfl
theorem R_ (k:Nat):tab (k+1) 3=JI.run mo (tab k) k:=by kernel_rfl
theorem Sa (k:Nat):tab (k+1) 4=JJ.run mo (tab k) k:=by kernel_rfl
theorem Sb (k:Nat):tab (k+1) 5=JK.run mo (tab k) k:=by kernel_rfl
theorem Sd (k:Nat):tab (k+1) 6=JL.run mo (tab k) k:=by kernel_rfl
theorem Se (k:Nat):tab (k+1) 7=JM.run mo (tab k) k:=by kernel_rfl
theorem Sf (k:Nat):tab (k+1) 8=JN.run mo (tab k) k:=by kernel_rfl
theorem Si (k:Nat):tab (k+1) 9=JO.run mo (tab k) k:=by kernel_rfl
theorem OM (k:Nat):tab (k+1) 10=C5.run mo (tab k) k:=by kernel_rfl
theorem ON (k:Nat):tab (k+1) 11=C6.run mo (tab k) k:=by kernel_rfl
theorem OO (k:Nat):tab (k+1) 12=C7.run mo (tab k) k:=by kernel_rfl
theorem OP (k:Nat):tab (k+1) 13=C8.run mo (tab k) k:=by kernel_rfl
theorem OQ (k:Nat):tab (k+1) 14=C9.run mo (tab k) k:=by kernel_rfl
theorem OR (k:Nat):tab (k+1) 15=C_.run mo (tab k) k:=by kernel_rfl
theorem OS (k:Nat):tab (k+1) 16=Dd.run mo (tab k) k:=by kernel_rfl
theorem OT (k:Nat):tab (k+1) 17=De.run mo (tab k) k:=by kernel_rfl
theorem OU (k:Nat):tab (k+1) 18=Df.run mo (tab k) k:=by kernel_rfl
theorem OW (k:Nat):tab (k+1) 19=Dg.run mo (tab k) k:=by kernel_rfl
theorem good:Good mo tab:=⟨λ_ _ _=>rfl,λk j d h=>by
 match j,h with
 | 0,h=>cases h;exact R7 k
 | 1,h=>cases h;exact R8 k
 | 2,h=>cases h;exact R9 k
 | 3,h=>cases h;exact R_ k
 | 4,h=>cases h;exact Sa k
 | 5,h=>cases h;exact Sb k
 | 6,h=>cases h;exact Sd k
 | 7,h=>cases h;exact Se k
 | 8,h=>cases h;exact Sf k
 | 9,h=>cases h;exact Si k
 | 10,h=>cases h;exact OM k
 | 11,h=>cases h;exact ON k
 | 12,h=>cases h;exact OO k
 | 13,h=>cases h;exact OP k
 | 14,h=>cases h;exact OQ k
 | 15,h=>cases h;exact OR k
 | 16,h=>cases h;exact OS k
 | 17,h=>cases h;exact OT k
 | 18,h=>cases h;exact OU k
 | 19,h=>cases h;exact OW k
 |j+20,h=>exact absurd h (by simp[mo,ds]),λd hd=>zq (show vx ds=true by decide +kernel) d hd⟩
end K06
namespace L3
open PySem PySem.Spec PyProof.Rows L2 RI
section
variable {σ:Sg}{g:G}{fa fb fo fi:FE}{fr:FA}
@[simp] theorem P2 {xs:List D}{d:D}:aD (.tup xs) d g=rM (.tup xs) d g:=rfl
@[simp] theorem P4 {xs:List D}{d:D}:aD (.lst xs) d g=rM (.lst xs) d g:=rfl
@[simp] theorem P5 {n:Nat}{d:D}:aD (.ref n) d g=rM (.ref n) d g:=rfl
@[simp] theorem P6 {n:Nat}{d:D}:aD (.aI n) d g=(g[n]?).bind λxs=>if aP 6 d=true then(dk xs d).map λd=>(d,g)else none:=rfl
@[simp] theorem OX {n:Nat}{i v:D}:gV (.ref n) i v g=putD (.ref n) i v g:=rfl
@[simp] theorem BJ {n:Nat}{i v:D}:gV (.aI n) i v g=(g[n]?).bind λxs=>if(aP 6 i&&mY xs)=true then some (g.set n (cE xs i v))else none:=rfl
@[simp] theorem P7 {v:D}:cS fo fi v σ g=(fo σ g).bind λr=>(fi σ r.2).bind λq=>(gV r.1 q.1 v q.2).map λg'=>(σ,g'):=rfl
@[simp] theorem oo {eQ:D->Bool}{m:D->List D->G->Option (D×G)}:dn eQ m fo fr σ g=(fo σ g).bind λr=>if eQ r.1=true then(fr σ r.2).bind λq=>m r.1 q.1 q.2 else none:=rfl
@[simp] theorem BK:jy σ g=some (.aI g.length,g ++ [[]]):=rfl
@[simp] theorem oq {n:Nat}:fJ (.aI n)=true:=rfl
@[simp] theorem P8 {n:Nat}:isRef (.ref n)=true:=rfl
@[simp] theorem OY {xs:List D}:ny (.lst xs)=true:=rfl
@[simp] theorem SU {n:Nat}{x:D}:eh (.ref n) [x] g=(g[n]?).bind λxs=>if aC (xs.length+1)=true then some (.ao,g.set n (xs ++ [x]))else none:=rfl
@[simp] theorem P9 {n:Nat}{i:Int}:aP n (.int i)=true:=by cases n<;>rfl
@[simp] theorem P_ {n:Nat}{d:D}:lJ d (.aI n) g=(g[n]?).bind λxs=>if aP 6 d=true then some (dk xs d).isSome else none:=rfl
@[simp] theorem Qa {d e:D}:md d e g=(lJ d e g).map λb=>(.bl b,g):=rfl
@[simp] theorem Lx {d e:D}:n8 d e g=(lJ d e g).map λb=>(.bl (!b),g):=rfl
@[simp] theorem OZ:isFn .ao=false:=rfl
@[simp] theorem Qb {b:Bool}:isFn (.bl b)=false:=rfl
@[simp] theorem O0 {b:Int}:isFn (.int b)=false:=rfl
@[simp] theorem O1 {b:Str}:isFn (.str b)=false:=rfl
@[simp] theorem O2 {b:List D}:isFn (.tup b)=false:=rfl
@[simp] theorem O3 {b:List D}:isFn (.lst b)=false:=rfl
@[simp] theorem O4:isFn .bF=false:=rfl
@[simp] theorem O5 {b:Nat}:isFn (.ref b)=false:=rfl
@[simp] theorem O6 {b:Nat}:isFn (.aI b)=false:=rfl
end
end L3
namespace Pd
open PySem L3 L2
noncomputable def xc:FS:=aj (ax (fC (.int 0)) (gN 2)) (aj (a_ (ay (ai oLt (ab 1) (ag iz (aa (ab 0) (af))))) (ax (ai aD (ab 0) (ab 1)) (gN 2)) (aF)) (aH (aA mkRef (aa (ai b6 (ab 2) (ag dY (aa (ai yF (ab 2) (ai (bQ jm (λi j=>i ^ j.toNat)) (fC (.int 10)) (fC (.int 18)))) (af)))) (aa (ai aO (ai aO (ai (bQ bT (· % ·)) (ab 2) (fC (.int 2305843009213693951))) (ai b6 (fC (.int 7919)) (ab 1))) (fC (.int 3))) (aa (fC (.int 0)) (af)))))))
noncomputable def xf:FS:=aj (a_ (ay (ai rQ (ai aD (ab 0) (fC (.int 0))) (fC (.int 0)))) (aj (ax (ai (bQ bT (· % ·)) (ai aD (ab 0) (fC (.int 0))) (ab 1)) (gN 2)) (aj (ax (ai (bQ dw (· / ·)) (ai aD (ab 0) (fC (.int 0))) (ab 1)) (cS (ab 0) (fC (.int 0)))) (aH (ab 2)))) (aF)) (aj (ax (ai aO (ai aD (ab 0) (fC (.int 2))) (fC (.int 1))) (cS (ab 0) (fC (.int 2)))) (aj (ax (ai aD (ab 0) (fC (.int 2))) (gN 3)) (aj (ax (ai (bQ bT (· % ·)) (ai b6 (ai aD (ab 0) (fC (.int 1))) (ai aO (ai aO (fC (.int 48271)) (ai b6 (ai b6 (fC (.int 2)) (ab 3)) (ab 3))) (ai b6 (fC (.int 65537)) (ab 3)))) (fC (.int 2305843009213693921))) (gN 4)) (aj (ax (ai aO (ai aO (ai (bQ bT (· % ·)) (ab 4) (fC (.int 1000003))) (ai b6 (ab 3) (fC (.int 99991)))) (fC (.int 11))) (gN 5)) (aj (ax (ai (bQ bT (· % ·)) (ai b6 (ab 4) (ab 5)) (fC (.int 2305843009213693907))) (gN 4)) (aH (ai (bQ bT (· % ·)) (ai aO (ai (bQ dw (· / ·)) (ab 4) (fC (.int 97))) (ai (bQ dw (· / ·)) (ab 4) (fC (.int 1000033)))) (ab 1))))))))
noncomputable def Dh (take:Fn):FS:=aH (ai aD (ab 1) (ag take (aa (ab 0) (aa (ag iz (aa (ab 1) (af))) (af)))))
mutual
noncomputable def nf:D->Bool
 |.fn _=>false
 |.tup xs=>MU xs
 |_=>true
noncomputable def MU:List D->Bool
 | []=>true
 |d::ds=>nf d&&MU ds
end
theorem iY {i j:Int}(h1:-(2 ^ 64)<i)(h2:i<2 ^ 64):cI i j=true:=by
 unfold cI
 rw[Bool.or_eq_true]
 exact .inl (Nat.ble_eq_true_of_le (by omega))
theorem kP {i j:Int}(h1:-(2 ^ 64)<j)(h2:j<2 ^ 64):cI i j=true:=by
 unfold cI
 rw[Bool.or_eq_true]
 exact .inr (Nat.ble_eq_true_of_le (by omega))
theorem mr {i j:Int}(h1:0<j)(h2:j<1073741824):dw i j=true:=by
 unfold dw
 rw[Bool.and_eq_true]
 exact⟨Nat.ble_eq_true_of_le (by omega),Nat.ble_eq_true_of_le (by omega)⟩
theorem fz {i j:Int}(h1:0<j):bT i j=true:=Nat.ble_eq_true_of_le (by omega)
def Hd (g:G)(n:Nat)(B:Int):Prop:=∃a b c:Int,g[n]? = some [.int a,.int b,.int c]/\0<=a/\0<=b/\b<2 ^ 62/\0<=c/\c<=B
theorem Hd.mono {g n B B'}(h:Hd g n B)(hb:B<=B'):Hd g n B':=let⟨a,b,c,h1,h2,h3,h4,h5,h6⟩:=h;⟨a,b,c,h1,h2,h3,h4,h5,by omega⟩
theorem Hd.lt {g n B}(h:Hd g n B):n<g.length:=let⟨_,_,_,h1,_⟩:=h;(List.getElem?_eq_some_iff.mp h1).1
def Fr (n:Nat)(g g':G):Prop:=g'.length=g.length /\ ∀j,j≠n->g'[j]? = g[j]?
theorem Fr.refl {n g}:Fr n g g:=⟨rfl,λ_ _=>rfl⟩
theorem Fr.trans {n g g1 g2}(a:Fr n g g1)(b:Fr n g1 g2):Fr n g g2:=⟨b.1.trans a.1,λj h=>(b.2 j h).trans (a.2 j h)⟩
theorem Fr.set {n:Nat}{g:G}{xs:List D}:Fr n g (g.set n xs):=⟨by simp,λj h=>by rw[List.getElem?_set_ne (Ne.symm h)]⟩
theorem MV {a b c:D}:bW [a,b,c] 0=some a:=rfl
theorem C1 {a b c:D}:bW [a,b,c] 1=some b:=rfl
theorem at2 {a b c:D}:bW [a,b,c] 2=some c:=rfl
theorem O7 {g:G}{n:Nat}{a b c v:D}(h:g[n]? = some [a,b,c]):putD (.ref n) (.int 0) v g=some (g.set n [v,b,c]):=by unfold putD;simp only[h];rfl
theorem put2 {g:G}{n:Nat}{a b c v:D}(h:g[n]? = some [a,b,c]):putD (.ref n) (.int 2) v g=some (g.set n [a,b,v]):=by unfold putD;simp only[h];rfl
def cw (f:Fn):Prop:=∀(n:Nat) (m:Int) (g:G) (B:Int),B<2 ^ 40->0<m->m<1073741824->Hd g n B ->
 ∃r g',f [.ref n,.int m] g=some (.int r,g')/\0<=r/\r<m/\Hd g' n (B+1)/\Fr n g g'
theorem Fj:cw (av false 6 2 xf):=λn m g B hB hm j3 h=>by
 obtain⟨a,b,c,hg,ha,hb,zJ,hc,Tu⟩:=h
 have hn:n<g.length:=(List.getElem?_eq_some_iff.mp hg).1
 by_cases h0:0<a
 . refine⟨a % m,g.set n [.int (a / m),.int b,.int c],cR (σ':=[some (.ref n),some (.int m),some (.int (a % m)),none,none,none]) rfl ?_ (by simp),Int.emod_nonneg _ (by omega),Int.emod_lt_of_pos _ hm,⟨a / m,b,c,by simp[hn],Int.ediv_nonneg ha (by omega),hb,zJ,hc,by omega⟩,Fr.set⟩
   simp[xf,hg,MV,h0,fz hm,mr hm j3,O7 hg]
 . have e2:(g.set n [.int a,.int b,.int (c+1)])[n]? = some [.int a,.int b,.int (c+1)]:=by simp[hn]
   generalize hx:b*(48271+2*(c+1)*(c+1)+65537*(c+1)) % 2305843009213693921=x
   have Tv:0<=x:=by rw[<- hx];exact Int.emod_nonneg _ (by decide)
   have MQ:x<2305843009213693921:=by rw[<- hx];exact Int.emod_lt_of_pos _ (by decide)
   generalize hy:x*(x % 1000003+(c+1)*99991+11) % 2305843009213693907=y
   refine⟨(y / 97+y / 1000033) % m,g.set n [.int a,.int b,.int (c+1)],cR (σ':=[some (.ref n),some (.int m),none,some (.int (c+1)),some (.int y),some (.int (x % 1000003+(c+1)*99991+11))]) rfl ?_ (by simp),Int.emod_nonneg _ (by omega),Int.emod_lt_of_pos _ hm,⟨a,b,c+1,e2,ha,hb,zJ,by omega,by omega⟩,Fr.set⟩
   have m1:cI 2 (c+1)=true:=iY (by decide) (by decide)
   have m2:cI (2*(c+1)) (c+1)=true:=kP (by omega) (by omega)
   have m3:cI 65537 (c+1)=true:=iY (by decide) (by decide)
   have m4:cI b (48271+2*(c+1)*(c+1)+65537*(c+1))=true:=iY (by omega) (by omega)
   have m5:cI (c+1) 99991=true:=kP (by decide) (by decide)
   have m6:cI x (x % 1000003+(c+1)*99991+11)=true:=iY (by omega) (by omega)
   have d1:bT (b*(48271+2*(c+1)*(c+1)+65537*(c+1))) 2305843009213693921=true:=fz (by decide)
   have d2:bT x 1000003=true:=fz (by decide)
   have d3:bT (x*(x % 1000003+(c+1)*99991+11)) 2305843009213693907=true:=fz (by decide)
   have d4:bT (y / 97+y / 1000033) m=true:=fz hm
   have q1:dw y 97=true:=mr (by decide) (by decide)
   have q2:dw y 1000033=true:=mr (by decide) (by decide)
   simp[xf,hg,MV,C1,at2,h0,put2 hg,e2,m1,m2,m3,m4,m5,m6,d1,d2,d3,d4,q1,q2,hx,hy]
theorem cw.w {f:Fn}(h:cw f){n:Nat}{m:Int}{g:G}{B:Int}{Q:D×G->Prop}(hB:B<2 ^ 40)(hm:0<m)(j3:m<1073741824)(hh:Hd g n B)(q:∀r g',0<=r->r<m->Hd g' n (B+1)->Fr n g g'->Q (.int r,g')):wp (f [.ref n,.int m] g) Q:=by
 obtain⟨r,g',e,r0,r1,h1,l1⟩:=h n m g B hB hm j3 hh
 exact⟨_,e,q r g' r0 r1 h1 l1⟩
def kA (f:Fn):Prop:=∀(n:Nat) (xs:List D) (g:G) (B:Int),B<2 ^ 40->xs ≠ []->xs.length<1000->Hd g n B ->
 ∃d g',f [.ref n,.lst xs] g=some (d,g')/\d∈xs/\Hd g' n (B+1)/\Fr n g g'
theorem Fl {t:Fn}(ht:cw t):kA (av false 2 2 (Dh t)):=λn xs g B hB hx hl h=>by
 have h1:0<xs.length:=List.length_pos_iff.mpr hx
 obtain⟨r,g',e,r0,r1,h',qR⟩:=ht n (xs.length:Int) g B hB (by omega) (by omega) h
 have hr:r.toNat<xs.length:=by omega
 have ha:bW xs r=some xs[r.toNat]:=by
  unfold bW jH
  rw[if_pos r0,if_pos r1]
  exact List.getElem?_eq_getElem hr
 refine⟨xs[r.toNat],g',cR (σ':=[some (.ref n),some (.lst xs)]) rfl ?_ qR.1,List.getElem_mem hr,h',qR⟩
 simp[Dh,e,ha]
theorem kA.w {f:Fn}(h:kA f){n:Nat}{xs:List D}{g:G}{B:Int}{Q:D×G->Prop}(hB:B<2 ^ 40)(hx:xs ≠ [])(hl:xs.length<1000)(hh:Hd g n B)(q:∀d g',d∈xs->Hd g' n (B+1)->Fr n g g'->Q (d,g')):wp (f [.ref n,.lst xs] g) Q:=by
 obtain⟨d,g',e,r0,h1,l1⟩:=h n xs g B hB hx hl hh
 exact⟨_,e,q d g' r0 h1 l1⟩
theorem MW:jm 10 18=true:=by decide
def nz (f:Fn):Prop:=∀(ns:List Int) (i:Nat) (g:G),i<=100->∃xs,f [.lst (ns.map .int),.int i] g=some (.ref g.length,g ++ [xs])/\Hd (g ++ [xs]) g.length 0
section
variable {σ σ1:Sg}{g g1:G}{f:FE}{f1 f2:FS}{c:FT}{d:D}
theorem nA (h:f1 σ g=some (.nx,σ1,g1)):aj f1 f2 σ g=f2 σ1 g1:=by rw[kG,h];rfl
theorem xg {i:Nat}(h:f σ g=some (d,g1)):ax f (gN i) σ g=some (.nx,σ.set i (some d),g1):=by rw[u_,h];rfl
theorem O8 (h:c σ g=some (true,g1)):a_ c f1 f2 σ g=f1 σ g1:=by rw[iR,h];rfl
theorem O9 (h:c σ g=some (false,g1)):a_ c f1 f2 σ g=f2 σ g1:=by rw[iR,h];rfl
end
theorem aY {n:Nat}(h:n<=1000):aC n=true:=by
 rw[EE]
 exact decide_eq_true (by omega)
theorem Fm:nz (av true 3 2 xc):=λns i g hi=>by
 have fin:∀cell:Int,∃xs,(aH (aA mkRef (aa (ai b6 (ab 2) (ag dY (aa (ai yF (ab 2) (ai (bQ jm (λi j=>i ^ j.toNat)) (fC (.int 10)) (fC (.int 18)))) (af)))) (aa (ai aO (ai aO (ai (bQ bT (· % ·)) (ab 2) (fC (.int 2305843009213693951))) (ai b6 (fC (.int 7919)) (ab 1))) (fC (.int 3))) (aa (fC (.int 0)) (af)))))) [some (.lst (ns.map .int)),some (.int i),some (.int cell)] g=some (.rt (.ref g.length),[some (.lst (ns.map .int)),some (.int i),some (.int cell)],g ++ [xs])/\Hd (g ++ [xs]) g.length 0:=by
   intro cell
   have q0:0<=cell % 2305843009213693951:=Int.emod_nonneg _ (by decide)
   have q1:cell % 2305843009213693951<2305843009213693951:=Int.emod_lt_of_pos _ (by decide)
   have d1:bT cell 2305843009213693951=true:=fz (by decide)
   have m2:cI 7919 (i:Int)=true:=iY (by decide) (by decide)
   by_cases hc:1000000000000000000<=cell
   . have m1:cI cell 1=true:=kP (by decide) (by decide)
     refine⟨[.int cell,.int (cell % 2305843009213693951+7919*i+3),.int 0],by simp[MW,hc,m1,m2,d1],?_⟩
     exact⟨cell,cell % 2305843009213693951+7919*i+3,0,by simp,by omega,by omega,by omega,by omega,by omega⟩
   . have m1:cI cell 0=true:=kP (by decide) (by decide)
     refine⟨[.int 0,.int (cell % 2305843009213693951+7919*i+3),.int 0],by simp[MW,hc,m1,m2,d1],?_⟩
     exact⟨0,cell % 2305843009213693951+7919*i+3,0,by simp,by omega,by omega,by omega,by omega,by omega⟩
 by_cases h:i<ns.length
 . obtain⟨xs,e,hx⟩:=fin ns[i]
   refine⟨xs,nZ (σ':=[some (.lst (ns.map .int)),some (.int i),some (.int ns[i])]) rfl ?_,hx⟩
   unfold xc
   refine(nA (xg (d:=.int 0) (g1:=g) rfl)).trans ?_
   refine(nA (σ1:=[some (.lst (ns.map .int)),some (.int i),some (.int ns[i])]) (g1:=g) ((O8 (g1:=g) ?_).trans (xg ?_))).trans e
   . have:(i:Int)<(ns.length:Int):=by omega
     simp[this]
   . have ha:bW (ns.map D.int) (i:Int)=some (.int ns[i]):=DV (by simp[h])
     simp[ha]
 . obtain⟨xs,e,hx⟩:=fin 0
   refine⟨xs,nZ (σ':=[some (.lst (ns.map .int)),some (.int i),some (.int 0)]) rfl ?_,hx⟩
   unfold xc
   refine(nA (xg (d:=.int 0) (g1:=g) rfl)).trans ?_
   refine(nA (σ1:=[some (.lst (ns.map .int)),some (.int i),some (.int 0)]) (g1:=g) ((O9 (g1:=g) ?_).trans rfl)).trans e
   have:¬(i:Int)<(ns.length:Int):=by omega
   simp[this]
theorem nz.w {f:Fn}(h:nz f){ns:List Int}{i:Nat}{g:G}{Q:D×G->Prop}(hi:i<=100)(q:∀xs,Hd (g ++ [xs]) g.length 0->Q (.ref g.length,g ++ [xs])):wp (f [.lst (ns.map .int),.int i] g) Q:=by
 obtain⟨xs,e,hx⟩:=h ns i g hi
 exact⟨_,e,q xs hx⟩
noncomputable def dH (i:Int)(n:Nat):List D:=(List.range n).map λ(k:Nat)=>D.int (i+k)
theorem bH {i n}:(dH i n).length=n:=by simp[dH]
theorem dg {fr:FA}{σ:Sg}{g:G}{Q:List D×G->Prop}(h:wp (fr σ g) λr=>∃j:Int,r.1 = [.int j] /\ -1000000<=j/\j<=1000000/\Q (dH 0 j.toNat,r.2)):wp (bP fr σ g) Q:=by
 obtain⟨⟨ds,g'⟩,e,j,rfl,h1,h2,q⟩:=h
 refine⟨_,?_,q⟩
 unfold bP
 rw[e]
 simp only[Option.bind_some]
 rw[if_pos (eN.of h1 h2)]
 rfl
theorem Fo {i:Int}{n j:Nat}{d:D}(h:(dH i n)[j]? = some d):j<n/\d = .int (i+j):=by
 unfold dH at h
 rw[List.getElem?_map]at h
 cases hj:(List.range n)[j]? with
 |none=>rw[hj]at h;cases h
 |some x =>
  rw[hj]at h
  have hl:=(List.getElem?_eq_some_iff.mp hj).1
  have:x=j:=by rw[List.getElem?_range (by simpa using hl)]at hj;cases hj;rfl
  subst this
  cases h
  exact⟨by simpa using hl,rfl⟩
theorem cx {n j:Nat}{d:D}(h:(dH 0 n)[j]? = some d):j<n/\d = .int j:=by
 obtain⟨h1,rfl⟩:=Fo h
 exact⟨h1,by simp⟩
theorem zK {mk:List D->G->Option (D×G)}{fi:FI}{fr:List (Option Nat)}{t:FG}{c:FT}{e:FE}{σ:Sg}{g:G}{Q:D×G->Prop}(h:wp (fi σ g) λr=>aC r.1.length=true/\wp (cy t c e r.1 (bM fr σ) r.2) λq=>wp (mk q.1 q.2) Q):wp (bp mk fi fr t c e σ g) Q:=by
 obtain⟨⟨ds,g'⟩,e1,hz,q⟩:=h
 rw[rT,e1]
 simp only[Option.bind_some]
 rw[if_pos hz,wp_bind]
 exact q
theorem vD {nN nP:Nat}{b:FS}{ds:List D}{g:G}{Q:D×G->Prop}(hl:ds.length=nP)(h:wp (b (ds.map some++List.replicate (nN-nP) none) g) λr=>∃(k:Nat) (xs:List D),r.1 = .rt (.ref k)/\g.length<=k/\r.2.2[k]? = some xs/\bX g.length xs=true/\(r.2.2.take g.length).all (bX g.length)=true/\Q (.lst xs,r.2.2.take g.length)):wp (av false nN nP b ds g) Q:=by
 obtain⟨⟨r,σ,g'⟩,e,k,xs,rfl,h1,h2,h3,h4,q⟩:=h
 dsimp only at *
 unfold av
 rw[if_pos hl,e]
 have h5:k<g'.length:=(List.getElem?_eq_some_iff.mp h2).1
 refine⟨_,?_,q⟩
 have z1:¬g'.length=g.length:=by omega
 have z2:¬k<g.length:=by omega
 simp only[Option.bind_some,Bool.false_eq_true,if_false]
 unfold L3.settle
 rw[if_neg z1,if_pos h4]
 dsimp only
 rw[if_neg z2,h2]
 simp only[h3,if_true]
def Clean (g:G):Prop:=∀xs∈g,∀n,bX n xs=true
theorem Clean.fr {n:Nat}{g g':G}{B:Int}(hc:Clean g)(f:Fr n g g')(h:Hd g' n B):Clean g':=by
 intro xs hx m
 obtain⟨j,hj⟩:=List.mem_iff_getElem?.mp hx
 by_cases e:j=n
 . subst e
   obtain⟨a,b,c,h1,_⟩:=h
   rw[h1]at hj
   cases hj
   simp[bX,dC]
 . rw[f.2 j e]at hj
   exact hc xs (List.mem_iff_getElem?.mpr ⟨j,hj⟩) m
theorem Clean.app {g:G}{xs:List D}{B:Int}(hc:Clean g)(h:Hd (g ++ [xs]) g.length B):Clean (g ++ [xs]):=by
 obtain⟨a,b,c,h1,_⟩:=h
 simp at h1
 subst h1
 intro ys hy m
 rcases List.mem_append.mp hy with hy|hy
 . exact hc ys hy m
 . simp at hy
   subst hy
   simp[bX,dC]
theorem Clean.all {g:G}(hc:Clean g)(n:Nat):g.all (bX n)=true:=List.all_eq_true.mpr λxs hx=>hc xs hx n
theorem tF {xs:List D}{n:Nat}{d:D}(h:xs[n]? = some d):bW xs (n:Int)=some d:=by
 have hl:=(List.getElem?_eq_some_iff.mp h).1
 have h1:(0:Int)<=n:=by omega
 have h2:(n:Int)<(xs.length:Int):=by omega
 unfold bW jH
 rw[if_pos h1,if_pos h2]
 simpa using h
theorem ints_map:∀vs:List Int,fI (vs.map .int)=some vs
 | []=>rfl
 |v::vs=>by simp[fI,ints_map vs]
structure Mk (g gg:G)(n:Nat)(B:Int)(xs:List D):Prop where
 hd:Hd gg n B
 lt:n<g.length
 len:gg.length=g.length+1
 at_:gg[g.length]? = some xs
 old:∀j,j≠n->j<g.length->gg[j]? = g[j]?
theorem Mk.init {g:G}{n:Nat}{B:Int}{xs:List D}(h:Hd g n B):Mk g (g ++ [xs]) n B xs:=by
 have hl:=h.lt
 obtain⟨a,b,c,h1,h2⟩:=h
 exact⟨⟨a,b,c,by rw[List.getElem?_append_left hl];exact h1,h2⟩,hl,by simp,by simp,λj _ hj=>List.getElem?_append_left hj⟩
theorem Mk.step {g gg g':G}{n:Nat}{B B':Int}{xs:List D}(m:Mk g gg n B xs)(h:Hd g' n B')(f:Fr n gg g'):Mk g g' n B' xs:=by
 have:=m.lt
 exact⟨h,m.lt,by rw[f.1];exact m.len,by rw[f.2 _ (by omega)];exact m.at_,λj hj hl=>by rw[f.2 j hj];exact m.old j hj hl⟩
theorem Mk.put {g gg:G}{n:Nat}{B:Int}{xs ys:List D}(m:Mk g gg n B xs):Mk g (gg.set g.length ys) n B ys:=by
 have h1:=m.lt
 have h2:=m.len
 obtain⟨a,b,c,h3,h4⟩:=m.hd
 refine⟨⟨a,b,c,by rw[List.getElem?_set_ne (by omega)];exact h3,h4⟩,h1,by simp[h2],by simp[h2],λj hj hl=>by rw[List.getElem?_set_ne (by omega)];exact m.old j hj hl⟩
theorem Mk.mono {g gg:G}{n:Nat}{B B':Int}{xs:List D}(m:Mk g gg n B xs)(h:B<=B'):Mk g gg n B' xs:=⟨m.hd.mono h,m.lt,m.len,m.at_,m.old⟩
theorem Mk.fin {g gg:G}{n:Nat}{B:Int}{xs:List D}(m:Mk g gg n B xs):Hd (gg.take g.length) n B/\Fr n g (gg.take g.length):=by
 have h1:=m.lt
 have h2:=m.len
 obtain⟨a,b,c,h3,h4⟩:=m.hd
 refine⟨⟨a,b,c,by rw[List.getElem?_take_of_lt h1];exact h3,h4⟩,by simp[h2],λj hj=>?_⟩
 by_cases hl:j<g.length
 . rw[List.getElem?_take_of_lt hl];exact m.old j hj hl
 . rw[List.getElem?_eq_none (by simp;omega),List.getElem?_eq_none (by omega)]
end Pd
namespace Bx
open PySem L3 L2 Pd
abbrev Es:=List (Str×List Int×D)
noncomputable def kd (q:Str×List Int):D:=.tup (.str q.1::q.2.map .int)
noncomputable def ent (e:Str×List Int×D):D:=.tup [kd (e.1,e.2.1),e.2.2]
noncomputable def ky (e:Str×List Int×D):Str×List Int:=(e.1,e.2.1)
theorem JP:∀is js:List Int,c9 (is.map D.int) (js.map .int)=decide (is=js)
 | [],[]=>rfl
 | [],_::_=>rfl
 |_::_,[]=>rfl
 |i::is,j::js=>by
  simp only[List.map_cons,c9,JP is js,au]
  rw[Bool.eq_iff_iff]
  simp
theorem zL (a b:Str×List Int):au (kd a) (kd b)=decide (a=b):=by
 obtain⟨a1,a2⟩:=a
 obtain⟨b1,b2⟩:=b
 simp only[kd,au,c9,JP]
 rw[Bool.eq_iff_iff]
 simp
theorem pD {n:Nat}:∀is:List Int,eE n (is.map .int)=true
 | []=>by cases n<;>rfl
 |i::is=>by
  cases n<;>simp only[List.map_cons,eE,pD is,aP,Bool.and_true]
theorem xh (q:Str×List Int):aP 6 (kd q)=true:=by
 have:=pD (n:=5) q.2
 simp only[kd,aP,eE,this,Bool.and_true]
theorem jD:∀is:List Int,az (is.map .int)=true
 | []=>rfl
 |i::is=>by simp[az,flat,jD is]
theorem pF:∀is:List Int,bC (is.map .int)=0
 | []=>rfl
 |i::is=>by simp[bC,dep,pF is]
theorem vE (q:Str×List Int):flat (kd q)=true:=by simp[kd,flat,az,jD]
theorem zM (q:Str×List Int):dep (kd q)=1:=by simp[kd,dep,bC,pF]
def Ct (es:Es):Prop:=∀e∈es,flat e.2.2=true/\dep e.2.2<=5
theorem fA:∀{xs:List D},(∀x∈xs,flat x=true)->az xs=true
 | [],_=>rfl
 |x::xs,h=>by simp only[az,Bool.and_eq_true];exact⟨h x (by simp),fA λy hy=>h y (by simp[hy])⟩
theorem kB:∀{xs:List D},az xs=true->∀x∈xs,flat x=true
 | [],_,x,hx=>by simp at hx
 |y::xs,h,x,hx=>by
  simp only[az,Bool.and_eq_true]at h
  rcases List.mem_cons.mp hx with rfl|hx
  . exact h.1
  . exact kB h.2 x hx
theorem kQ {k:Nat}:∀{xs:List D},(∀x∈xs,dep x<=k)->bC xs<=k
 | [],_=>Nat.zero_le _
 |x::xs,h=>by
  have h1:=h x (by simp)
  have h2:=kQ (xs:=xs) λy hy=>h y (by simp[hy])
  simp only[bC];omega
mutual
theorem BL {n:Nat}:∀d:D,flat d=true->dC n d=true
 |.ao,_=>rfl
 |.bl _,_=>rfl
 |.int _,_=>rfl
 |.str _,_=>rfl
 |.tup xs,h=>by simpa[dC]using cT xs (by simpa[flat]using h)
 |.lst xs,h=>by simpa[dC]using cT xs (by simpa[flat]using h)
 |.bF,h=>by cases h
 |.ref _,h=>by cases h
 |.aI _,h=>by cases h
 |.fn _,h=>by cases h
theorem cT {n:Nat}:∀ds:List D,az ds=true->bX n ds=true
 | [],_=>rfl
 |d::ds,h=>by
  simp only[az,Bool.and_eq_true]at h
  simp only[bX,Bool.and_eq_true]
  exact⟨BL d h.1,cT ds h.2⟩
end
theorem gY {es:Es}(h:Ct es):az (es.map ent)=true:=fA λx hx=>by
 obtain⟨e,he,rfl⟩:=List.mem_map.mp hx
 simp[ent,flat,az,vE,(h e he).1]
theorem Fq {es:Es}(h:Ct es):bC (es.map ent)<=6:=kQ λx hx=>by
 obtain⟨e,he,rfl⟩:=List.mem_map.mp hx
 have:=(h e he).2
 simp[ent,dep,bC,zM];omega
theorem vF {fin:Bool}:∀is js:List Int,((bZ fin (is.map .int) (js.map .int)).isSome)=true
 | [],_=>by unfold bZ;rfl
 |_::_,[]=>by unfold bZ;rfl
 |i::is,j::js=>by
  simp only[List.map_cons,bZ]
  split
  . exact vF is js
  . simp[ltN]
theorem vG (a b:Str×List Int):((ltN (kd a) (kd b)).isSome)=true:=by
 simp only[kd,ltN,bZ]
 split
 . exact vF _ _
 . simp[ltN]
theorem fT {es:Es}(h:(es.map ky).Nodup):∀{a b},a∈es->b∈es->ky a=ky b->a=b:=by
 induction es with
 |nil=>intro a b ha;simp at ha
 |cons e es ih =>
  intro a b ha hb lF
  simp only[List.map_cons,List.nodup_cons]at h
  rcases List.mem_cons.mp ha with e1|h1<;>rcases List.mem_cons.mp hb with e2|h2
  . exact e1.trans e2.symm
  . exact absurd (by rw[<- e1,lF];exact List.mem_map_of_mem h2) h.1
  . exact absurd (by rw[<- e2,<- lF];exact List.mem_map_of_mem h1) h.1
  . exact ih h.2 h1 h2 lF
theorem iV {es:Es}(h:(es.map ky).Nodup)(hc:Ct es)(hl:es.length<64):pq (es.map ent)=true:=by
 have hd:=Fq hc
 have h1:∀x∈es.map ent,fZ x=some 0:=λx hx=>by
   obtain⟨e,he,rfl⟩:=List.mem_map.mp hx
   rfl
 simp only[pq,Bool.and_eq_true,decide_eq_true_eq,Bool.or_eq_true,List.all_eq_true,beq_iff_eq]
 refine⟨⟨⟨⟨by simpa using hl,gY hc⟩,by omega⟩,.inr (.inr (.inl h1))⟩,λx hx y hy=>?_⟩
 obtain⟨a,ha,rfl⟩:=List.mem_map.mp hx
 obtain⟨b,hb,rfl⟩:=List.mem_map.mp hy
 simp only[ent,ltN,bZ]
 split
 . rename_i q
   rw[zL,decide_eq_true_eq]at q
   have e:=fT h ha hb q
   subst e
   rw[if_pos (gO _ (hc a ha).1)]
   rfl
 . exact vG _ _
theorem zN (es:Es):∃fs:Es,cN (es.map ent)=fs.map ent/\fs.Perm es:=by
 have p:=nk (es.map ent)
 have:∀(xs:List D) (es:Es),xs.Perm (es.map ent)->∃fs:Es,xs=fs.map ent/\fs.Perm es:=by
  intro xs
  induction xs with
  |nil =>
   intro es p
   have:es.map ent = []:=p.symm.eq_nil
   have:es = []:=by simpa using this
   subst this
   exact⟨[],rfl,.refl _⟩
  |cons x xs ih =>
   intro es p
   have hm:x∈es.map ent:=p.mem_iff.mp (by simp)
   obtain⟨e,he,rfl⟩:=List.mem_map.mp hm
   obtain⟨l1,l2,rfl⟩:=List.append_of_mem he
   have p2:(ent e::xs).Perm (ent e::(l1++l2).map ent):=p.trans (by simp only[List.map_append,List.map_cons];exact List.perm_middle)
   obtain⟨fs,e1,e2⟩:=ih (l1++l2) ((List.perm_cons _).mp p2)
   exact⟨e::fs,by rw[e1];rfl,(e2.cons e).trans List.perm_middle.symm⟩
 exact this _ es p
noncomputable def aM:Es->List D
 | []=>[]
 |e::es=>kd (ky e)::e.2.2::aM es
theorem kS:∀(es:Es) (e:Str×List Int×D),aM (es ++ [e])=aM es ++ [kd (ky e),e.2.2]
 | [],e=>rfl
 |x::es,e=>by simp[aM,kS es e]
theorem kT:∀es:Es,(aM es).length=2*es.length
 | []=>rfl
 |x::es=>by simp[aM,kT es];omega
theorem kU {q:Str×List Int}{c:D}:∀es:Es,q ∉ es.map ky->cE (aM es) (kd q) c=aM es ++ [kd q,c]
 | [],_=>rfl
 |x::es,h=>by
  simp only[List.map_cons,List.mem_cons,not_or]at h
  simp only[aM,cE,zL]
  rw[if_neg (by simpa using λz=>h.1 z.symm),kU es h.2]
  rfl
theorem zO {e:Str×List Int×D}:∀{es:Es},(es.map ky).Nodup->e∈es->dk (aM es) (kd (ky e))=some e.2.2
 | [],_,h=>by simp at h
 |x::es,nd,h=>by
  simp only[List.map_cons,List.nodup_cons]at nd
  simp only[aM,dk,zL]
  rcases List.mem_cons.mp h with rfl|h
  . rw[if_pos (by simp)]
  . rw[if_neg (by simp only[decide_eq_true_eq];exact λz=>nd.1 (by rw[z];exact List.mem_map_of_mem h))]
    exact zO nd.2 h
theorem tG {n:Nat}:∀(fs es:Es) (g:G),g[n]? = some (aM es)->(((es++fs)).map ky).Nodup->es.length+fs.length<=100->putAll n (fs.map λe=>(kd (ky e),e.2.2)) g=some (g.set n (aM (es++fs)))
 | [],es,g,hg,_,_=>by
  have:g.set n (aM es)=g:=by
   apply List.ext_getElem?
   intro i
   by_cases h:i=n
   . subst h;rw[List.getElem?_set_self (List.getElem?_eq_some_iff.mp hg).1,hg]
   . rw[List.getElem?_set_ne (Ne.symm h)]
  simp[putAll,this]
 |f::fs,es,g,hg,nd,hl=>by
  have hn:=(List.getElem?_eq_some_iff.mp hg).1
  have hz:mY (aM es)=true:=by unfold mY;exact aY (by rw[kT];simp at hl;omega)
  have wC:ky f ∉ es.map ky:=λhm=>by
   rw[List.map_append,List.nodup_append]at nd
   exact nd.2.2 _ hm _ (by simp) rfl
  have:=tG fs (es ++ [f]) (g.set n (aM (es ++ [f]))) (List.getElem?_set_self hn) (by simpa using nd) (by simp at hl ⊢;omega)
  simp only[List.map_cons,putAll,BJ,hg,Option.bind_some,xh,hz,Bool.and_self,if_true,kU es wC]
  rw[<- kS,this,List.set_set]
  simp
theorem zP:∀es:Es,gr (es.map ent)=some (es.map λe=>(kd (ky e),e.2.2))
 | []=>rfl
 |e::es=>by simp[gr,ent,w6,zP es,ky]
end Bx
namespace Bx
open PySem L3 L2 Pd RI
noncomputable def O_:List (Str×D):=[("once",.tup [.str "hands"]),("twice",.tup [.str "hands",.str "turn"]),("handed",.tup [.str "hands",.str "turn",.str "moves"]),("signs",.tup [.str "hands",.str "toggles",.str "shakes",.str "moves"]),("shared",.tup [.str "hands",.str "places",.str "toggles",.str "shakes",.str "moves"]),("tables",.tup [.str "hands",.str "boxes"])]
noncomputable def fB:FS:=aH (ai aD (ab 0) (ai aO (fC (.int 1)) (pZ O_ (ai aD (ab 0) (fC (.int 0))) (ab 1))))
noncomputable def nB (num:Fn):FS:=aH (ag num (aa (ab 0) (aa (fC (.str "hands")) af)))
noncomputable def gA (num hands:Fn):FS:=aj (a_ (ay (ai oEq (ai aD (ab 0) (fC (.int 0))) (fC (.str "shared")))) (aH (ag num (aa (ab 0) (aa (fC (.str "places")) af)))) aF) (aH (ag hands (aa (ab 0) af)))
noncomputable def c8 (num hands shr own xk single:Fn):FS:=aj (ax (ai aD (ab 0) (fC (.int 0))) (gN 1)) (aj (a_ (ay (ai oEq (ab 1) (fC (.str "tables")))) (aH (ag single (aa (fC (.str "box")) (aa (ag num (aa (ab 0) (aa (fC (.str "boxes")) af))) (aa (fC (.int 0)) af))))) aF) (aj (a_ (ay (ai oEq (ab 1) (fC (.str "shared")))) (aH (ag shr (aa (ab 0) af))) aF) (aj (ax (ag single (aa (fC (.str "own")) (aa (ag hands (aa (ab 0) af)) (aa (ag own (aa (ab 0) af)) af)))) (gN 2)) (aj (a_ (ay (ai oEq (ab 1) (fC (.str "signs")))) (aH (ai aO (ab 2) (ag xk (aa (ab 0) (aa (aA aq (aa (fC (.str "sign")) af)) af))))) aF) (aH (ab 2))))))
noncomputable def vH (hands places xk single zeros:Fn):FS:=aj (ax (ag single (aa (fC (.str "box")) (aa (ag places (aa (ab 0) af)) (aa (aA aq (aa (fC (.int 0)) (aa (j5 eW (fC (.int 1))) (aa (fC (.int 0)) af)))) af)))) (gN 1)) (aj (ax (ag single (aa (fC (.str "view")) (aa (ag hands (aa (ab 0) af)) (aa (ag zeros (aa (ag places (aa (ab 0) af)) af)) af)))) (gN 2)) (aH (ai aO (ai aO (ab 1) (ab 2)) (ag xk (aa (ab 0) (aa (aA aq (aa (fC (.str "call")) (aa (fC (.str "sign")) af))) af))))))
noncomputable def ot (hands zeros:Fn):FS:=aj (ax (ai aD (ab 0) (fC (.int 0))) (gN 1)) (aj (a_ (ay (ai oEq (ab 1) (fC (.str "once")))) (aH (fC (.int 0))) aF) (aj (a_ (ay (ai oEq (ab 1) (fC (.str "twice")))) (aH (aA aq (aa (fC (.int 0)) (aa (fC (.int 0)) af)))) aF) (aj (ax (ag zeros (aa (ag hands (aa (ab 0) af)) af)) (gN 2)) (aj (a_ (ay (ai oEq (ab 1) (fC (.str "handed")))) (aH (aA aq (aa (fC (.int 0)) (aa (fC (.int 0)) (aa (ab 2) af))))) aF) (aH (aA aq (aa (fC (.int 0)) (aa (ab 2) (aa (fC (.int 0)) (aa (ab 2) af))))))))))
noncomputable def kC (num hands Fs:Fn):FS:=aj (ax (aA mkRef af) (gN 2)) (aj (a_ (ay (ai oEq (ag num (aa (ab 0) (aa (fC (.str "shakes")) af))) (fC (.int 1)))) (cK (eX (ab 1)) (gN 3) (cL (dn isRef dA (ab 2) (aa (ag Fs (aa (ab 3) (aa (ag hands (aa (ab 0) af)) af))) af)))) aF) (aH (ab 2)))
noncomputable def ou:FS:=aH (bp bA (bP (aa (ab 1) af)) [none,none,some 2,some 0] (gN 1) bw (aA aq (aa (aA aq (aa (ab 3) (aa (ab 1) af))) (aa (ab 2) af))))
noncomputable def mv:FS:=aj (ax (aA mkRef af) (gN 2)) (aj (cK (bP (aa (ab 1) af)) (gN 3) (cL (dn isRef dA (ab 2) (aa (bp bA (bP (aa (ab 1) af)) [none,none,some 3,some 0] (gN 1) (ay (ai iA (ab 1) (ab 2))) (aA aq (aa (aA aq (aa (ab 3) (aa (ab 2) (aa (ab 1) af)))) (aa (fC (.int 0)) af)))) af)))) (aH (ab 2)))
noncomputable def zQ:FS:=aH (ai b6 (aA aq (aa (fC (.int 0)) af)) (ab 0))
theorem z1:aC 1=true:=rfl
theorem z2:aC 2=true:=rfl
theorem z3:aC 3=true:=rfl
theorem z4:aC 4=true:=rfl
theorem du {a:D}{r:List D}:bW (a::r) 0=some a:=by unfold bW jH;simp
noncomputable def aB (w:Str)(p:Nat)(c:D):Es:=(List.range p).map λ(j:Nat)=>(w,[(j:Int)],c)
noncomputable def dZ (w:Str)(n i:Nat):Es:=((List.range n).filter λj=>decide (j≠i)).map λ(j:Nat)=>(w,[(i:Int),(j:Int)],.int 0)
noncomputable def bu (w:Str)(n:Nat):Es:=(List.range n).flatMap λi=>dZ w n i
noncomputable def bK (b:Int)(ws:List Str)(n:Nat):Es:=if b=1 then ws.flatMap λw=>bu w n else []
noncomputable def zs (n:Nat):D:=.tup (List.replicate n (.int 0))
def gZ (f:Fn):Prop:=∀(w:Str) (p:Nat) (c:D) (g:G),p<=20->f [.str w,.int p,c] g=some (.lst ((aB w p c).map ent),g)
theorem zR:gZ (av false 3 3 ou):=λw p c g hp=>by
 have key:wp (av false 3 3 ou [.str w,.int p,c] g) λq=>q=(.lst ((aB w p c).map ent),g):=by
  refine wp_run rfl ?_
  have zn:aC p=true:=aY (by omega)
  simp[ou]
  refine dg ?_
  simp[bH,zn]
  refine⟨by omega,?_⟩
  refine eZ (λj acc σ g'=>(∃o1,σ = [none,o1,some c,some (.str w)])/\acc=(aB w j c).map ent/\g'=g) _ 0 _ _ [] ⟨⟨none,rfl⟩,rfl,rfl⟩ ?_ ?_
  . rintro j d acc σ g' hj ⟨⟨o1,rfl⟩,rfl,rfl⟩
    obtain⟨Sj,rfl⟩:=cx hj
    simp[z2,aB,List.range_succ,ent,kd]
  . rintro xs σ g' ⟨_,e,rfl⟩
    simp[bH]at e
    subst e
    simp
 obtain⟨q,e,rfl⟩:=key
 exact e
theorem BM {w:Str}{n i:Nat}:(dZ w n i).length<=n:=by
 simp only[dZ,List.length_map]
 exact Nat.le_trans (List.length_filter_le _ _) (by simp)
theorem eu {w:Str}{n:Nat}:∀k,((List.range k).flatMap λi=>dZ w n i).length<=k*n
 | 0=>by simp
 |k+1=>by
  have h1:=eu (w:=w) (n:=n) k
  have h2:=BM (w:=w) (n:=n) (i:=k)
  rw[List.range_succ,List.flatMap_append,List.length_append]
  simp only[List.flatMap_cons,List.flatMap_nil,List.append_nil]
  have:(k+1)*n=k*n+n:=Nat.succ_mul k n
  omega
theorem Ft {w:Str}{n i:Nat}:Ct (dZ w n i):=λe he=>by
 simp only[dZ,List.mem_map]at he
 obtain⟨j,_,rfl⟩:=he
 exact⟨rfl,by simp[dep]⟩
theorem kW {α:Type}{f:α->Es}(h:∀a,Ct (f a))(l:List α):Ct (l.flatMap f):=λe he=>by
 obtain⟨a,_,h2⟩:=List.mem_flatMap.mp he
 exact h a e h2
theorem nC {w:Str}{n:Nat}:Ct (bu w n):=kW (λ_=>Ft) _
theorem zS {g:G}{xs:List D}(cg:Clean g)(h:az xs=true):Clean (g ++ [xs]):=λys hy n=>by
 rcases List.mem_append.mp hy with hy|hy
 . exact cg ys hy n
 . simp at hy;subst hy;exact cT _ h
def il (f:Fn):Prop:=∀(w:Str) (n:Nat) (g:G),n<=10->Clean g->f [.str w,.int n] g=some (.lst ((bu w n).map ent),g)
theorem xl:il (av false 4 2 mv):=λw n g hn cg=>by
 have key:wp (av false 4 2 mv [.str w,.int n] g) λq=>q=(.lst ((bu w n).map ent),g):=by
  refine vD rfl ?_
  have zn:aC n=true:=aY (by omega)
  simp[mv]
  refine dg ?_
  simp
  refine⟨by omega,?_⟩
  refine c7 (λj σ g'=>(∃o3,σ = [some (.str w),some (.int n),some (.ref g.length),o3])/\g'=g ++ [((List.range j).flatMap λi=>dZ w n i).map ent]) _ 0 _ _ ⟨⟨none,rfl⟩,rfl⟩ ?_ ?_
  . rintro j d σ g' hj ⟨⟨o3,rfl⟩,rfl⟩
    obtain⟨Sj,rfl⟩:=cx hj
    rw[Nat.zero_add]at *
    simp
    refine dg ?_
    simp[bH,zn]
    refine⟨by omega,?_⟩
    refine eZ (λi acc σ g'=>(∃o1,σ = [none,o1,some (.int j),some (.str w)])/\acc=(((List.range i).filter λk=>decide (k≠j)).map λ(k:Nat)=>ent (w,[(j:Int),(k:Int)],.int 0))/\g'=g ++ [((List.range j).flatMap λi=>dZ w n i).map ent]) _ 0 _ _ [] ⟨⟨none,rfl⟩,rfl,rfl⟩ ?_ ?_
    . rintro i d acc σ g' hi ⟨⟨o1,rfl⟩,rfl,rfl⟩
      obtain⟨jQ,rfl⟩:=cx hi
      rw[Nat.zero_add]
      have e1:au (.int (i:Int)) (.int (j:Int))=decide (i=j):=by simp only[au];rw[Bool.eq_iff_iff];simp;omega
      simp[flat,dep,e1]
      by_cases h:i=j
      . simp[h,List.range_succ,List.filter_append]
      . simp[h,z2,z3,List.range_succ,List.filter_append,ent,kd]
    . rintro xs σ g' ⟨_,e,rfl⟩
      simp only[List.nil_append,Nat.zero_add,bH]at e
      have hl:=eu (w:=w) (n:=n) j
      have Tc:j*n<=10*10:=Nat.mul_le_mul (by omega) hn
      have hx:xs.length<=n:=by
        rw[e,List.length_map]
        exact Nat.le_trans (List.length_filter_le _ _) (by simp)
      have fin:((List.range (j+1)).flatMap λi=>dZ w n i).map ent=((List.range j).flatMap λi=>dZ w n i).map ent++xs:=by
        rw[List.range_succ,List.flatMap_append,List.map_append,e]
        simp[dZ]
      have hY:(((List.range j).flatMap λi=>dZ w n i).map ent).length<=100:=by rw[List.length_map];omega
      rw[fin]
      generalize ((List.range j).flatMap λi=>dZ w n i).map ent=Y at hY
      have hz:aC (Y.length+xs.length)=true:=aY (by omega)
      simp[eJ,dA,hz]
  . rintro σ g' ⟨⟨o3,rfl⟩,rfl⟩
    simp only[Nat.zero_add,bH]
    simp
    refine⟨cT _ (gY nC),λx hx=>cg x hx _,?_⟩
    rfl
 obtain⟨q,e,rfl⟩:=key
 exact e
inductive Mn:D->Nat->Nat->Str->D->Es->Prop
 |once (n:Nat):n<=5->Mn (.tup [.str "once",.int n]) n n "own" (.int 0) []
 |twice (n:Nat) (t:Int):n<=5->Mn (.tup [.str "twice",.int n,.int t]) n n "own" (.tup [.int 0,.int 0]) []
 |handed (n:Nat) (t m:Int):n<=5->Mn (.tup [.str "handed",.int n,.int t,.int m]) n n "own" (.tup [.int 0,.int 0,zs n]) []
 |signs (n:Nat) (a b m:Int):n<=5->Mn (.tup [.str "signs",.int n,.int a,.int b,.int m]) n n "own" (.tup [.int 0,zs n,.int 0,zs n]) (bK b ["sign"] n)
 |shared (n p:Nat) (a b m:Int):n<=5->p<=5->Mn (.tup [.str "shared",.int n,.int p,.int a,.int b,.int m]) n p "box" (.tup [.int 0,.int (-1),.int 0]) (aB "view" n (zs p)++bK b ["call","sign"] n)
theorem Mn.le {d n p w c r}(M:Mn d n p w c r):n<=5/\p<=5:=by cases M<;>exact⟨by assumption,by assumption⟩
theorem zT {d n p w c r g}(M:Mn d n p w c r):av false 2 2 fB [d,.str "hands"] g=some (.int n,g):=by
 cases M<;>exact cR (σ':=[some _,some (.str "hands")]) rfl rfl rfl
theorem xm {n p:Nat}{a b m:Int}{g:G}:av false 2 2 fB [.tup [.str "shared",.int n,.int p,.int a,.int b,.int m],.str "places"] g=some (.int p,g):=cR (σ':=[some _,some (.str "places")]) rfl rfl rfl
theorem xn {n p:Nat}{a b m:Int}{g:G}:av false 2 2 fB [.tup [.str "shared",.int n,.int p,.int a,.int b,.int m],.str "shakes"] g=some (.int b,g):=cR (σ':=[some _,some (.str "shakes")]) rfl rfl rfl
theorem ue {n:Nat}{a b m:Int}{g:G}:av false 2 2 fB [.tup [.str "signs",.int n,.int a,.int b,.int m],.str "shakes"] g=some (.int b,g):=cR (σ':=[some _,some (.str "shakes")]) rfl rfl rfl
theorem tH {d n p w c r g}(M:Mn d n p w c r):av false 1 1 (nB (av false 2 2 fB)) [d] g=some (.int n,g):=by
 refine cR (σ':=[some d]) rfl ?_ rfl
 simp[nB,zT M]
theorem u1:¬(Str.ofString "once" = Str.ofString "shared"):=by decide
theorem u2:¬(Str.ofString "twice" = Str.ofString "shared"):=by decide
theorem u3:¬(Str.ofString "handed" = Str.ofString "shared"):=by decide
theorem u4:¬(Str.ofString "signs" = Str.ofString "shared"):=by decide
theorem v1:¬(Str.ofString "once" = Str.ofString "tables"):=by decide
theorem v2:¬(Str.ofString "twice" = Str.ofString "tables"):=by decide
theorem v3:¬(Str.ofString "handed" = Str.ofString "tables"):=by decide
theorem v4:¬(Str.ofString "signs" = Str.ofString "tables"):=by decide
theorem v5:¬(Str.ofString "shared" = Str.ofString "tables"):=by decide
theorem x1:¬(Str.ofString "once" = Str.ofString "signs"):=by decide
theorem x2:¬(Str.ofString "twice" = Str.ofString "signs"):=by decide
theorem x3:¬(Str.ofString "handed" = Str.ofString "signs"):=by decide
theorem y2:¬(Str.ofString "twice" = Str.ofString "once"):=by decide
theorem y3:¬(Str.ofString "handed" = Str.ofString "once"):=by decide
theorem y4:¬(Str.ofString "signs" = Str.ofString "once"):=by decide
theorem w3:¬(Str.ofString "handed" = Str.ofString "twice"):=by decide
theorem w4:¬(Str.ofString "signs" = Str.ofString "twice"):=by decide
theorem t4:¬(Str.ofString "signs" = Str.ofString "handed"):=by decide
theorem zU {d n p w c r g}(M:Mn d n p w c r):av false 1 1 (gA (av false 2 2 fB) (av false 1 1 (nB (av false 2 2 fB)))) [d] g=some (.int p,g):=by
 have h:=tH (g:=g) M
 refine cR (σ':=[some d]) rfl ?_ rfl
 cases M with
 |once n h1=>simp[gA,du,u1,h]
 |twice n t h1=>simp[gA,du,u2,h]
 |handed n t m h1=>simp[gA,du,u3,h]
 |signs n a b m h1=>simp[gA,du,u4,h]
 |shared n p a b m h1 h2=>simp[gA,du,xm]
def tJ (f:Fn):Prop:=∀{d n p w c r} {g:G},Mn d n p w c r->f [d] g=some (.int p,g)
def gB (f:Fn):Prop:=∀{d n p w c r} {g:G},Mn d n p w c r->f [d] g=some (.int n,g)
noncomputable def keys (w:Str)(p:Nat):List D:=(List.range p).map λ(j:Nat)=>kd (w,[(j:Int)])
def kX (f:Fn):Prop:=∀(n:Nat) (g:G),n<=20->f [.int n] g=some (zs n,g)
theorem BN:kX (av false 1 1 zQ):=λn g hn=>by
 refine cR (σ':=[some (.int n)]) rfl ?_ rfl
 have:=N2 (g:=g) (xs:=[D.int 0]) (k:=(n:Int)) (by omega) (by omega) (by simp)
 simp at this
 simp[zQ,z1,this,zs]
theorem kY {b:Int}{n:Nat}(hn:n<=5):(bK b ["sign"] n).length<=25/\(bK b ["call","sign"] n).length<=50:=by
 have h1:=eu (w:="sign") (n:=n) n
 have h2:=eu (w:="call") (n:=n) n
 have h3:n*n<=5*5:=Nat.mul_le_mul hn hn
 unfold bK
 split
 . simp only[List.flatMap_cons,List.flatMap_nil,List.append_nil,List.length_append,bu];omega
 . simp
theorem zV {b:Int}{ws:List Str}{n:Nat}:Ct (bK b ws n):=by
 unfold bK
 split
 . exact kW (λ_=>nC) _
 . intro e he;simp at he
theorem g0 {w:Str}{n:Nat}{c:D}(h:flat c=true/\dep c<=5):Ct (aB w n c):=λe he=>by
 simp only[aB,List.mem_map]at he
 obtain⟨j,_,rfl⟩:=he
 exact h
theorem iZ {a b:Es}(h1:Ct a)(h2:Ct b):Ct (a++b):=λe he=>by
 rcases List.mem_append.mp he with he|he
 . exact h1 e he
 . exact h2 e he
theorem Ly (n:Nat):flat (zs n)=true/\dep (zs n)<=1:=by
 constructor
 . exact fA λx hx=>by rw[List.eq_of_mem_replicate hx];rfl
 . have:bC (List.replicate n (D.int 0))<=0:=kQ λx hx=>by rw[List.eq_of_mem_replicate hx];simp[dep]
   simp only[zs,dep];omega
noncomputable def kZ (ws:List Str):D:=.tup (ws.map .str)
theorem tK {num hd cr:Fn}{d:D}{n:Nat}{b:Int}{ws:List Str}{g:G}(h1:∀g,num [d,.str "shakes"] g=some (.int b,g))(h2:∀g,hd [d] g=some (.int n,g))(h3:il cr)(hn:n<=5)(hw:ws.length<=2)(cg:Clean g):
  av false 4 2 (kC num hd cr) [d,kZ ws] g=some (.lst ((bK b ws n).map ent),g):=by
 have key:wp (av false 4 2 (kC num hd cr) [d,kZ ws] g) λq=>q=(.lst ((bK b ws n).map ent),g):=by
  refine vD rfl ?_
  by_cases hb:b=1
  . subst hb
    simp[kC,kZ,h1]
    refine c7 (λj σ g'=>(∃o3,σ = [some d,some (.tup (ws.map .str)),some (.ref g.length),o3])/\g'=g ++ [((ws.take j).flatMap λw=>bu w n).map ent]) _ 0 _ _ ⟨⟨none,rfl⟩,by simp⟩ ?_ ?_
    . rintro j x σ g' hj ⟨⟨o3,rfl⟩,rfl⟩
      rw[Nat.zero_add]
      obtain⟨w,eS,rfl⟩:∃w,ws[j]? = some w/\x = .str w:=by
       rw[List.getElem?_map]at hj
       cases e:ws[j]? with
       |none=>rw[e]at hj;cases hj
       |some w=>rw[e]at hj;cases hj;exact⟨w,rfl,rfl⟩
      have mL:=(List.getElem?_eq_some_iff.mp eS).1
      have ct:Ct ((ws.take j).flatMap λw=>bu w n):=kW (λ_=>nC) _
      have e3:=h3 w n (g ++ [((ws.take j).flatMap λw=>bu w n).map ent]) (by omega) (zS cg (gY ct))
      have fin:((ws.take (j+1)).flatMap λw=>bu w n).map ent=((ws.take j).flatMap λw=>bu w n).map ent++(bu w n).map ent:=by
       rw[List.take_succ,eS]
       simp[List.flatMap_append]
      have l1:∀w,(bu w n).length<=25:=λw=>by
       have:=eu (w:=w) (n:=n) n
       have h3:n*n<=5*5:=Nat.mul_le_mul hn hn
       unfold bu;omega
      have l2:∀(vs:List Str),(vs.flatMap λw=>bu w n).length<=25*vs.length:=λvs=>by
       induction vs with
       |nil=>simp
       |cons v vs ih =>
        have:=l1 v
        simp only[List.flatMap_cons,List.length_append,List.length_cons];omega
      have hY:(((ws.take j).flatMap λw=>bu w n).map ent).length<=100:=by
       have:=l2 (ws.take j)
       rw[List.length_map]
       have h5:(ws.take j).length<=2:=by simp;omega
       omega
      have hX:((bu w n).map ent).length<=25:=by rw[List.length_map];exact l1 w
      rw[fin]
      generalize ((ws.take j).flatMap λw=>bu w n).map ent=Y at hY e3
      generalize (bu w n).map ent=Z at hX e3
      have hz:aC (Y.length+Z.length)=true:=aY (by omega)
      simp[h2,e3,eJ,dA,hz]
    . rintro σ g' ⟨⟨o3,rfl⟩,rfl⟩
      simp only[Nat.zero_add,List.length_map,List.take_length]
      have ct:Ct (ws.flatMap λw=>bu w n):=kW (λ_=>nC) _
      have e0:bK 1 ws n=ws.flatMap λw=>bu w n:=by simp[bK]
      rw[e0]
      have nr:=cT (n:=g.length) _ (gY ct)
      generalize (ws.flatMap λw=>bu w n).map ent=Y at nr
      simp[nr]
      exact λx hx=>cg x hx _
  . have e0:bK b ws n = []:=by simp[bK,hb]
    rw[e0]
    simp[kC,kZ,h1,hb,bX]
    exact λx hx=>cg x hx _
 obtain⟨q,e,rfl⟩:=key
 exact e
theorem JQ {hd zr:Fn}(hh:gB hd)(hz:kX zr){d n p w c r}{g:G}(M:Mn d n p w c r)(hw:w = "own"):av false 3 1 (ot hd zr) [d] g=some (c,g):=by
 have h:=hh (g:=g) M
 have h5:=M.le
 have key:wp (av false 3 1 (ot hd zr) [d] g) λq=>q=(c,g):=by
  refine wp_run rfl ?_
  cases M with
  |once n h1=>simp[ot,du]
  |twice n t h1=>simp[ot,du,y2,z2]
  |handed n t m h1=>simp[ot,du,y3,w3,z3,h,hz n g (by omega)]
  |signs n a b m h1=>simp[ot,du,y4,w4,t4,z4,h,hz n g (by omega)]
  |shared n p a b m h1 h2=>exact absurd hw (by decide)
 obtain⟨q,e,rfl⟩:=key
 exact e
def k_ (f:Fn):Prop:=∀{n p:Nat} {a b m:Int} {g:G},n<=5->p<=5->Clean g->f [.tup [.str "signs",.int n,.int a,.int b,.int m],.tup [.str "sign"]] g=some (.lst ((bK b ["sign"] n).map ent),g)/\f [.tup [.str "shared",.int n,.int p,.int a,.int b,.int m],.tup [.str "call",.str "sign"]] g=some (.lst ((bK b ["call","sign"] n).map ent),g)
theorem zW {hd cr:Fn}(hh:gB hd)(hc:il cr):k_ (av false 4 2 (kC (av false 2 2 fB) hd cr)):=fun {n p a b m g} hn hp cg =>
 ⟨tK (ws:=["sign"]) (λg=>ue) (λg=>hh (.signs n a b m hn)) hc hn (by decide) cg,tK (ws:=["call","sign"]) (λg=>xn) (λg=>hh (.shared n p a b m hn hp)) hc hn (by decide) cg⟩
theorem bO {w:Str}{p:Nat}{c:D}:(aB w p c).length=p:=by simp[aB]
theorem zX {a b:Es}(h:a.length+b.length<=100):aC ((a.map ent).length+(b.map ent).length)=true:=aY (by simp;omega)
theorem zY {hd pl sh sg zr:Fn}(hh:gB hd)(hp:tJ pl)(hs:k_ sh)(hg:gZ sg)(hz:kX zr){n p:Nat}{a b m:Int}{g:G}(h1:n<=5)(h2:p<=5)(cg:Clean g):
  av false 3 1 (vH hd pl sh sg zr) [.tup [.str "shared",.int n,.int p,.int a,.int b,.int m]] g=some (.lst ((aB "box" p (.tup [.int 0,.int (-1),.int 0])++(aB "view" n (zs p)++bK b ["call","sign"] n)).map ent),g):=by
 have M:=Mn.shared n p a b m h1 h2
 have e1:=hh (g:=g) M
 have e2:=hp (g:=g) M
 have e3:=(hs (a:=a) (b:=b) (m:=m) h1 h2 cg).2
 have e4:=hg "box" p (.tup [.int 0,.int (-1),.int 0]) g (by omega)
 have e5:=hg "view" n (zs p) g (by omega)
 have e6:=hz p g (by omega)
 have l:=(kY (b:=b) h1).2
 refine cR (σ':=[some (.tup [.str "shared",.int n,.int p,.int a,.int b,.int m]),some (.lst ((aB "box" p (.tup [.int 0,.int (-1),.int 0])).map ent)),some (.lst ((aB "view" n (zs p)).map ent))]) rfl ?_ rfl
 have s1:=zX (a:=aB "box" p (.tup [.int 0,.int (-1),.int 0])) (b:=aB "view" n (zs p)) (by simp[bO];omega)
 have s2:aC (((aB "box" p (.tup [.int 0,.int (-1),.int 0])).map ent++(aB "view" n (zs p)).map ent).length+((bK b ["call","sign"] n).map ent).length)=true:=aY (by simp[bO];omega)
 generalize hA:(aB "box" p (.tup [.int 0,.int (-1),.int 0])).map ent=A at *
 generalize hB:(aB "view" n (zs p)).map ent=B at *
 generalize hC:(bK b ["call","sign"] n).map ent=C at *
 simp only[List.map_append,hA,hB,hC]
 simp only[List.length_append]at s2
 simp[vH,e1,e2,e3,e4,e5,e6,z2,z3,s1,s2]
theorem zZ {hd sh ow sk sg zr:Fn}(hh:gB hd)(hs:k_ sk)(hg:gZ sg)
  (ho:∀{d n p w c r} {g:G},Mn d n p w c r->w = "own"->ow [d] g=some (c,g))
  (GP:∀{n p:Nat} {a b m:Int} {g:G},n<=5->p<=5->Clean g->sh [.tup [.str "shared",.int n,.int p,.int a,.int b,.int m]] g=some (.lst ((aB "box" p (.tup [.int 0,.int (-1),.int 0])++(aB "view" n (zs p)++bK b ["call","sign"] n)).map ent),g))
  {d n p w c r} {g:G} (M:Mn d n p w c r) (cg:Clean g):av false 3 1 (c8 (av false 2 2 fB) hd sh ow sk sg) [d] g=some (.lst ((aB w p c++r).map ent),g):=by
 have h5:=M.le
 have e1:=hh (g:=g) M
 have e2:=hg w p c g (by omega)
 have eo:=λz=>ho (g:=g) M z
 have key:wp (av false 3 1 (c8 (av false 2 2 fB) hd sh ow sk sg) [d] g) λq=>q=(.lst ((aB w p c++r).map ent),g):=by
  refine wp_run rfl ?_
  cases M with
  |once n h1=>simp[c8,du,v1,u1,x1,e1,e2,eo rfl]
  |twice n t h1=>simp[c8,du,v2,u2,x2,e1,e2,eo rfl]
  |handed n t m h1=>simp[c8,du,v3,u3,x3,e1,e2,eo rfl]
  |signs n a b m h1 =>
   have e3:=(hs (a:=a) (b:=b) (m:=m) (p:=0) h1 (by omega) cg).1
   have l:=(kY (b:=b) h1).1
   have s1:=zX (a:=aB "own" n (.tup [.int 0,zs n,.int 0,zs n])) (b:=bK b ["sign"] n) (by simp[bO];omega)
   simp only[List.map_append]
   have Sk:=eo rfl
   generalize (aB "own" n (.tup [.int 0,zs n,.int 0,zs n])).map ent=A at *
   generalize (bK b ["sign"] n).map ent=C at *
   simp[c8,du,v4,u4,e1,Sk,e2,e3,z1,s1]
  |shared n p a b m h1 h2 =>
   have e3:=GP (a:=a) (b:=b) (m:=m) h1 h2 cg
   generalize (aB "box" p (.tup [.int 0,.int (-1),.int 0])++(aB "view" n (zs p)++bK b ["call","sign"] n)).map ent=A at *
   simp[c8,du,v5,e3]
 obtain⟨q,e,rfl⟩:=key
 exact e
noncomputable def kk (w:Str)(p:Nat):List (Str×List Int):=(List.range p).map λ(j:Nat)=>(w,[(j:Int)])
theorem nD {w:Str}{p:Nat}{c:D}:(aB w p c).map ky=kk w p:=by simp[aB,kk,ky]
theorem tN:∀p:Fin 6,(kk "own" p).Nodup:=by decide +kernel
theorem BO:∀n:Fin 6,(kk "own" n++(bu "sign" n).map ky).Nodup:=by decide +kernel
theorem z7:∀n p:Fin 6,(kk "box" p++(kk "view" n++((bu "call" n).map ky++(bu "sign" n).map ky))).Nodup:=by decide +kernel
theorem Mn.nd {d n p w c r}(M:Mn d n p w c r):((aB w p c++r).map ky).Nodup:=by
 rw[List.map_append,nD]
 cases M with
 |once n h1=>simpa using tN ⟨n,by omega⟩
 |twice n t h1=>simpa using tN ⟨n,by omega⟩
 |handed n t m h1=>simpa using tN ⟨n,by omega⟩
 |signs n a b m h1 =>
  have:=BO ⟨n,by omega⟩
  unfold bK
  split
  . simpa using this
  . simpa using this.sublist (List.sublist_append_left _ _)
 |shared n p a b m h1 h2 =>
  have:=z7 ⟨n,by omega⟩ ⟨p,by omega⟩
  rw[List.map_append,nD]
  unfold bK
  split
  . simpa using this
  . exact this.sublist (List.Sublist.append (List.Sublist.refl _) (List.Sublist.append (List.Sublist.refl _) (by simp)))
theorem Mn.ct {d n p w c r}(M:Mn d n p w c r):Ct (aB w p c++r):=by
 have zn:=Ly
 cases M with
 |once n h1=>exact iZ (g0 ⟨rfl,by simp[dep]⟩) (λe he=>by simp at he)
 |twice n t h1=>exact iZ (g0 ⟨rfl,by simp[dep,bC]⟩) (λe he=>by simp at he)
 |handed n t m h1 =>
  have:=zn n
  exact iZ (g0 ⟨by simp[flat,az,this.1],by simp[dep,bC];omega⟩) (λe he=>by simp at he)
 |signs n a b m h1 =>
  have:=zn n
  exact iZ (g0 ⟨by simp[flat,az,this.1],by simp[dep,bC];omega⟩) zV
 |shared n p a b m h1 h2 =>
  have:=zn p
  exact iZ (g0 ⟨rfl,by simp[dep,bC]⟩) (iZ (g0 ⟨this.1,by omega⟩) zV)
theorem Mn.len {d n p w c r}(M:Mn d n p w c r):(aB w p c++r).length<64:=by
 have h:=M.le
 cases M with
 |signs n a b m h1=>have:=(kY (b:=b) h1).1;simp[bO];omega
 |shared n p a b m h1 h2=>have:=(kY (b:=b) h1).2;simp[bO];omega
 |_=>simp[bO];omega
noncomputable def tO:List Str:=["box","call","own","sign","view"]
noncomputable def bt (w:Str):Int:=(tO.idxOf w:Nat)
noncomputable def Sl (w:Str):List D->Int
 | [.int i]=>1000*bt w+10*i
 | [.int i,.int j]=>1000*bt w+10*i+j
 |_=>0
noncomputable def JR:D->Int
 |.tup (.str w::r)=>Sl w r
 |_=>0
noncomputable def Sm:D->Int
 |.tup [k,_]=>JR k
 |_=>0
noncomputable def ph (q:Str×List Int):Int:=JR (kd q)
inductive Vk:Str×List Int->Prop
 |one (w:Str) (i:Int):w∈(["box","own","view"]:List Str)->0<=i->i<=9->Vk (w,[i])
 |two (w:Str) (i j:Int):w∈(["call","sign"]:List Str)->0<=i->i<=9->0<=j->j<=9->Vk (w,[i,j])
theorem ql:∀w∈tO,∀w'∈tO,decide (w.cps.toList<w'.cps.toList)=decide (bt w<bt w'):=by decide +kernel
theorem i3:∀w∈tO,∀w'∈tO,(w == w')=decide (bt w=bt w'):=by decide +kernel
theorem i4:∀w∈(["box","own","view"]:List Str),w∈tO/\(bt w=0\/bt w=2\/bt w=4):=by decide +kernel
theorem i5:∀w∈(["call","sign"]:List Str),w∈tO/\(bt w=1\/bt w=3):=by decide +kernel
theorem JS (a b:Str):au (.str a) (.str b)=(a == b):=by simp[au]
theorem la {w w':Str}{xs ys:List D}(h:(w == w')=false):ltB (.tup (.str w::xs)) (.tup (.str w'::ys))=decide (w.cps.toList<w'.cps.toList):=by
 simp[ltB,ltN,bZ,JS,h]
theorem vI {w w':Str}{xs ys:List D}(h:(w == w')=true)(hl:xs.length=ys.length):ltB (.tup (.str w::xs)) (.tup (.str w'::ys))=(bZ false xs ys).getD false:=by
 simp[ltB,ltN,bZ,JS,h,hl]
theorem Di {a b:Str×List Int}(ha:Vk a)(hb:Vk b):ltB (kd a) (kd b)=decide (ph a<ph b):=by
 cases ha with
 |one w i hw i0 i9 =>
  obtain⟨w1,w2⟩:=i4 w hw
  cases hb with
  |one w' i' eS tP tQ =>
   obtain⟨fU,tT⟩:=i4 w' eS
   have e:=i3 w w1 w' fU
   show ltB (.tup [.str w,.int i]) (.tup [.str w',.int i'])=decide (1000*bt w+10*i<1000*bt w'+10*i')
   cases hq:(w == w')with
   |false =>
    rw[hq]at e
    have ne:bt w≠bt w':=by simpa using e.symm
    rw[la hq,ql w w1 w' fU]
    exact decide_eq_decide.mpr (by omega)
   |true =>
    rw[hq]at e
    have ne:bt w=bt w':=by simpa using e.symm
    rw[vI (xs:=[.int i]) (ys:=[.int i']) hq rfl]
    by_cases hi:i=i'
    . subst hi
      have:¬(1000*bt w+10*i<1000*bt w'+10*i):=by omega
      simp[bZ,au,this]
    . have e2:(i<i')↔ (1000*bt w+10*i<1000*bt w'+10*i'):=by omega
      simp[bZ,au,hi,ltN,e2]
  |two w' i' j' eS tP tQ JT JU =>
   obtain⟨fU,tT⟩:=i5 w' eS
   have e:=i3 w w1 w' fU
   have hq:(w == w')=false:=by rw[e];exact decide_eq_false (by omega)
   show ltB (.tup [.str w,.int i]) (.tup [.str w',.int i',.int j'])=decide (1000*bt w+10*i<1000*bt w'+10*i'+j')
   rw[la hq,ql w w1 w' fU]
   exact decide_eq_decide.mpr (by omega)
 |two w i j hw i0 i9 j0 j9 =>
  obtain⟨w1,w2⟩:=i5 w hw
  cases hb with
  |one w' i' eS tP tQ =>
   obtain⟨fU,tT⟩:=i4 w' eS
   have e:=i3 w w1 w' fU
   have hq:(w == w')=false:=by rw[e];exact decide_eq_false (by omega)
   show ltB (.tup [.str w,.int i,.int j]) (.tup [.str w',.int i'])=decide (1000*bt w+10*i+j<1000*bt w'+10*i')
   rw[la hq,ql w w1 w' fU]
   exact decide_eq_decide.mpr (by omega)
  |two w' i' j' eS tP tQ JT JU =>
   obtain⟨fU,tT⟩:=i5 w' eS
   have e:=i3 w w1 w' fU
   show ltB (.tup [.str w,.int i,.int j]) (.tup [.str w',.int i',.int j'])=decide (1000*bt w+10*i+j<1000*bt w'+10*i'+j')
   cases hq:(w == w')with
   |false =>
    rw[hq]at e
    have ne:bt w≠bt w':=by simpa using e.symm
    rw[la hq,ql w w1 w' fU]
    exact decide_eq_decide.mpr (by omega)
   |true =>
    rw[hq]at e
    have ne:bt w=bt w':=by simpa using e.symm
    rw[vI (xs:=[.int i,.int j]) (ys:=[.int i',.int j']) hq rfl]
    by_cases hi:i=i'
    . subst hi
      by_cases hj:j=j'
      . subst hj
        have:¬(1000*bt w+10*i+j<1000*bt w'+10*i+j):=by omega
        simp[bZ,au,this]
      . have e2:(j<j')↔ (1000*bt w+10*i+j<1000*bt w'+10*i+j'):=by omega
        simp[bZ,au,hj,ltN,e2]
    . have e2:(i<i')↔ (1000*bt w+10*i+j<1000*bt w'+10*i'+j'):=by omega
      simp[bZ,au,hi,ltN,e2]
theorem JV {a b:Str×List Int}(ha:Vk a)(hb:Vk b)(h:ph a=ph b):a=b:=by
 cases ha with
 |one w i hw i0 i9 =>
  obtain⟨w1,w2⟩:=i4 w hw
  cases hb with
  |one w' i' eS tP tQ =>
   obtain⟨fU,tT⟩:=i4 w' eS
   have e:=i3 w w1 w' fU
   have h:1000*bt w+10*i=1000*bt w'+10*i':=h
   rw[decide_eq_true (show bt w=bt w' by omega)]at e
   have hi:i=i':=by omega
   rw[eq_of_beq e,hi]
  |two w' i' j' eS tP tQ JT JU =>
   obtain⟨fU,tT⟩:=i5 w' eS
   have h:1000*bt w+10*i=1000*bt w'+10*i'+j':=h
   omega
 |two w i j hw i0 i9 j0 j9 =>
  obtain⟨w1,w2⟩:=i5 w hw
  cases hb with
  |one w' i' eS tP tQ =>
   obtain⟨fU,tT⟩:=i4 w' eS
   have h:1000*bt w+10*i+j=1000*bt w'+10*i':=h
   omega
  |two w' i' j' eS tP tQ JT JU =>
   obtain⟨fU,tT⟩:=i5 w' eS
   have e:=i3 w w1 w' fU
   have h:1000*bt w+10*i+j=1000*bt w'+10*i'+j':=h
   rw[decide_eq_true (show bt w=bt w' by omega)]at e
   have hi:i=i':=by omega
   have hj:j=j':=by omega
   rw[eq_of_beq e,hi,hj]
def fV (es:Es):Prop:=∀e∈es,Vk (ky e)
theorem Dj {es:Es}(hv:fV es)(h:(es.map ky).Nodup):(es.map λe=>ph (ky e)).Nodup:=by
 rw[List.Nodup,List.pairwise_map]at h ⊢
 refine(List.Pairwise.and_mem.mp h).imp fun {a b} h e=>h.2.2 (JV (hv a h.1) (hv b h.2.1) e)
theorem z9 {es:Es}(hv:fV es)(h:(es.map ky).Nodup)(hc:Ct es):∃fs:Es,cN (es.map ent)=fs.map ent/\fs.Perm es/\fs.Pairwise λa b=>ph (ky a)<ph (ky b):=by
 obtain⟨fs,e1,pm⟩:=zN es
 refine⟨fs,e1,pm,?_⟩
 have pr:=lN (xs:=es.map ent) (key:=Sm) (λx hx y hy=>by
  obtain⟨a,ha,rfl⟩:=List.mem_map.mp hx
  obtain⟨b,hb,rfl⟩:=List.mem_map.mp hy
  show ltB (ent a) (ent b)=decide (ph (ky a)<ph (ky b))
  by_cases hk:ky a=ky b
  . have:=fT h ha hb hk
    subst this
    have hn:¬ph (ky a)<ph (ky a):=by omega
    simp[ltB,ent,ltN,bZ,zL,gO _ (hc a ha).1,hn]
  . rw[<- Di (hv a ha) (hv b hb)]
    have he:au (kd (a.1,a.2.1)) (kd (b.1,b.2.1))=false:=by rw[zL];exact decide_eq_false hk
    simp[ltB,ent,ltN,bZ,he,ky]) (by
  rw[List.map_map]
  exact Dj hv h)
 rw[e1,List.pairwise_map]at pr
 exact pr
theorem lO {α β:Type}{f:α->β}:∀{xs:List β} {es:List α},xs.Perm (es.map f)->∃fs:List α,xs=fs.map f/\fs.Perm es
 | [],es,p=>by
  have:es.map f = []:=p.symm.eq_nil
  have:es = []:=by simpa using this
  subst this
  exact⟨[],rfl,.refl _⟩
 |x::xs,es,p=>by
  have hm:x∈es.map f:=p.mem_iff.mp (by simp)
  obtain⟨e,he,rfl⟩:=List.mem_map.mp hm
  obtain⟨l1,l2,rfl⟩:=List.append_of_mem he
  have p2:(f e::xs).Perm (f e::(l1++l2).map f):=p.trans (by simp only[List.map_append,List.map_cons];exact List.perm_middle)
  obtain⟨fs,e1,e2⟩:=lO ((List.perm_cons _).mp p2)
  exact⟨e::fs,by rw[e1];rfl,(e2.cons e).trans List.perm_middle.symm⟩
theorem z_ {es:Es}(hv:fV es)(h:(es.map ky).Nodup):∃fs:Es,cN (es.map λe=>kd (ky e))=fs.map (λe=>kd (ky e))/\fs.Perm es/\fs.Pairwise λa b=>ph (ky a)<ph (ky b):=by
 obtain⟨fs,e1,pm⟩:∃fs:Es,cN (es.map λe=>kd (ky e))=fs.map (λe=>kd (ky e))/\fs.Perm es:=by
  have p:=nk (es.map λe=>kd (ky e))
  obtain⟨fs,h1,h2⟩:=lO p
  exact⟨fs,h1,h2⟩
 refine⟨fs,e1,pm,?_⟩
 have pr:=lN (xs:=es.map λe=>kd (ky e)) (key:=JR) (λx hx y hy=>by
  obtain⟨a,ha,rfl⟩:=List.mem_map.mp hx
  obtain⟨b,hb,rfl⟩:=List.mem_map.mp hy
  exact Di (hv a ha) (hv b hb)) (by
  rw[List.map_map]
  exact Dj hv h)
 rw[e1,List.pairwise_map]at pr
 exact pr
theorem Aa {fs gs es aW:Es}(h1:fs.Perm es)(h2:gs.Perm aW)(h3:es.Perm aW)(p1:fs.Pairwise λa b=>ph (ky a)<ph (ky b))(p2:gs.Pairwise λa b=>ph (ky a)<ph (ky b)):fs=gs :=
 List.Perm.eq_of_pairwise (λa b _ _ x y=>by omega) p1 p2 (h1.trans (h3.trans h2.symm))
end Bx
namespace Pd
open PySem L3 L2
end Pd
namespace Bx
open PySem L3 L2 Pd RI
noncomputable def gJ:FS:=a_ (ay (ai iA (ab 3) (ab 4))) (ax (fC (.int 0)) (cS (ab 2) (aA aq (aa (ab 0) (aa (ab 3) (aa (ab 4) af)))))) aF
noncomputable def JW:FS:=cK (bP (aa (ab 1) af)) (gN 4) gJ
noncomputable def tU:FS:=aj (ax jy (gN 2)) (aj (cK (bP (aa (ab 1) af)) (gN 3) JW) (aH (ab 2)))
noncomputable def dD (w:Str)(i J:Nat):Es:=((List.range J).filter λj=>decide (j≠i)).map λ(j:Nat)=>(w,[(i:Int),(j:Int)],.int 0)
theorem BP (w:Str)(i J:Nat):dD w i (J+1)=dD w i J++(if i=J then []else [(w,[(i:Int),(J:Int)],.int 0)]):=by
 unfold dD
 rw[List.range_succ,List.filter_append,List.map_append]
 congr 1
 by_cases h:i=J
 . subst h;simp
 . have:J≠i:=λe=>h e.symm
   simp[h,this]
noncomputable def dE (w:Str)(n I:Nat):Es:=(List.range I).flatMap λi=>dZ w n i
theorem BQ (w:Str)(n I:Nat):dE w n (I+1)=dE w n I++dD w I n:=by
 unfold dE
 rw[List.range_succ,List.flatMap_append]
 simp[dZ,dD]
theorem oy {w:Str}{n I:Nat}{e:Str×List Int×D}(h:e∈dE w n I):∃i j:Nat,i<I/\j<n/\i≠j/\e=(w,[(i:Int),(j:Int)],.int 0):=by
 obtain⟨i,hi,h⟩:=List.mem_flatMap.mp h
 obtain⟨j,hj,rfl⟩:=List.mem_map.mp h
 rw[List.mem_filter,List.mem_range,decide_eq_true_eq]at hj
 exact⟨i,j,List.mem_range.mp hi,hj.1,λe=>hj.2 e.symm,rfl⟩
theorem Fu {w:Str}{i J:Nat}{e:Str×List Int×D}(h:e∈dD w i J):∃j:Nat,j<J/\e=(w,[(i:Int),(j:Int)],.int 0):=by
 obtain⟨j,hj,rfl⟩:=List.mem_map.mp h
 rw[List.mem_filter,List.mem_range]at hj
 exact⟨j,hj.1,rfl⟩
theorem Fv (w:Str)(n I:Nat):(dE w n I).length<=I*n:=eu I
theorem Fw (w:Str)(i J:Nat):(dD w i J).length<=J:=by
 unfold dD
 rw[List.length_map]
 exact Nat.le_trans (List.length_filter_le _ _) (by simp)
def Sn (w:Str)(n i:Nat)(g:G)(o4:Nat->Option D->Prop)(j:Nat)(σ:Sg)(gg:G):Prop:=∃o,σ = [some (.str w),some (.int n),some (.aI g.length),some (.int i),o]/\gg=g ++ [aM (dE w n i++dD w i j)]
theorem Lz {w:Str}{n i:Nat}{g:G}{o:Option D}{Q:F×Sg×G->Prop}(hn:n<=5)(hi:i<n)(q:∀o',Q (.nx,[some (.str w),some (.int n),some (.aI g.length),some (.int i),o'],g ++ [aM (dE w n (i+1))])):
   wp (JW [some (.str w),some (.int n),some (.aI g.length),some (.int i),o] (g ++ [aM (dE w n i)])) Q:=by
 unfold JW
 simp only[kH,wp_bind]
 refine dg ?_
 simp only[bN,cp,cQ,List.getElem?_cons_succ,List.getElem?_cons_zero,Option.bind_some,ba]
 refine⟨n,rfl,by omega,by omega,?_⟩
 refine c7 (Sn w n i g λ_ _=>True) (dH 0 ((n:Int)).toNat) 0 _ _ ⟨_,rfl,by simp[dD]⟩ ?_ ?_
 . rintro j d σ gg hj ⟨o,rfl,rfl⟩
   obtain⟨mL,rfl⟩:=cx hj
   have So:j<n:=by simpa using mL
   rw[Nat.zero_add]
   have cs:=BP w i j
   have kk:=xh (w,[(i:Int),(j:Int)])
   have Sq:kd (w,[(i:Int),(j:Int)])= .tup [.str w,.int i,.int j]:=rfl
   rw[Sq]at kk
   have l1:=Fv w n i
   have l2:=Fw w i j
   have l3:i*n<=5*5:=Nat.mul_le_mul (by omega) hn
   have sz:mY (aM (dE w n i++dD w i j))=true:=by
     unfold mY
     exact aY (by rw[kT,List.length_append];omega)
   by_cases h:i=j
   . subst h
     have ne:iA (.int (i:Nat)) (.int (i:Nat)) (g ++ [aM (dE w n i++dD w i i)])=some (.bl false,g ++ [aM (dE w n i++dD w i i)]):=by simp[iA,flat,dep,au]
     have e1:gJ [some (.str w),some (.int n),some (.aI g.length),some (.int i),some (.int i)] (g ++ [aM (dE w n i++dD w i i)])=some (.nx,[some (.str w),some (.int n),some (.aI g.length),some (.int i),some (.int i)],g ++ [aM (dE w n i++dD w i i)]):=by
      simp[gJ,flat,dep,au]
     simp only[jo,ba,List.set_cons_succ,List.set_cons_zero]
     rw[e1]
     simp only[ba]
     refine⟨_,rfl,?_⟩
     rw[cs,if_pos rfl,List.append_nil]
   . have Sr:(w,[(i:Int),(j:Int)]) ∉ (dE w n i++dD w i j).map ky:=λhm=>by
      obtain⟨e,he,hk⟩:=List.mem_map.mp hm
      rcases List.mem_append.mp he with he|he
      . obtain⟨i',j',iH,_,_,rfl⟩:=oy he
        simp[ky]at hk
        omega
      . obtain⟨j',uV,rfl⟩:=Fu he
        simp[ky]at hk
        omega
     have pn:cE (aM (dE w n i++dD w i j)) (.tup [.str w,.int i,.int j]) (.int 0)=aM (dE w n i++(dD w i j ++ [(w,[(i:Int),(j:Int)],.int 0)])):=(kU (c:=.int 0) (dE w n i++dD w i j) Sr).trans (by rw[<- List.append_assoc];exact(kS (dE w n i++dD w i j) (w,[(i:Int),(j:Int)],.int 0)).symm)
     have dI:¬((i:Int)=(j:Int)):=by omega
     have e1:gJ [some (.str w),some (.int n),some (.aI g.length),some (.int i),some (.int j)] (g ++ [aM (dE w n i++dD w i j)])=some (.nx,[some (.str w),some (.int n),some (.aI g.length),some (.int i),some (.int j)],g ++ [aM (dE w n i++dD w i (j+1))]):=by
      rw[cs,if_neg h]
      simp[gJ,flat,dep,au,dI,h,kk,sz,pn,List.set_append]
     simp only[jo,ba,List.set_cons_succ,List.set_cons_zero]
     rw[e1]
     simp only[ba]
     exact⟨_,rfl,rfl⟩
 . rintro σ gg ⟨o,rfl,rfl⟩
   rw[bH]
   have:(0+((n:Int)).toNat)=n:=by omega
   rw[this,<- BQ]
   exact q o
def lb (f:Fn):Prop:=∀(w:Str) (n:Nat) (g:G),n<=5->f [.str w,.int n] g=some (.aI g.length,g ++ [aM (bu w n)])
def Ss (w:Str)(n:Nat)(g:G)(i:Nat)(σ:Sg)(gg:G):Prop:=∃o o',σ = [some (.str w),some (.int n),some (.aI g.length),o,o']/\gg=g ++ [aM (dE w n i)]
theorem BR:lb (av true 5 2 tU):=λw n g hn=>by
 have key:wp (tU [some (.str w),some (.int n),none,none,none] g) λr=>r.1 = .rt (.aI g.length)/\r.2.2=g ++ [aM (bu w n)]:=by
  unfold tU
  simp only[kG,u_,BK,Option.bind_some,jo,wp_bind,kH,List.set_cons_succ,List.set_cons_zero]
  refine dg ?_
  simp only[bN,cp,cQ,List.getElem?_cons_succ,List.getElem?_cons_zero,Option.bind_some,ba]
  refine⟨n,rfl,by omega,by omega,?_⟩
  refine c7 (Ss w n g) (dH 0 ((n:Int)).toNat) 0 _ _ ⟨_,_,rfl,by simp[dE,aM]⟩ ?_ ?_
  . rintro j d σ gg hj ⟨o,o',rfl,rfl⟩
    obtain⟨mL,rfl⟩:=cx hj
    rw[Nat.zero_add]
    simp only[jo,ba,List.set_cons_succ,List.set_cons_zero]
    exact Lz hn (by simpa using mL) λTw=>⟨_,_,rfl,rfl⟩
  . rintro σ gg ⟨o,o',rfl,rfl⟩
    rw[bH]
    have:(0+((n:Int)).toNat)=n:=by omega
    rw[this]
    simp
    rfl
 obtain⟨⟨r,σ',g'⟩,e,h1,h2⟩:=key
 dsimp only at h1 h2
 subst h1 h2
 exact nZ rfl e
theorem Ab:∀es:Es,iW (aM es)=es.map λe=>(kd (ky e),e.2.2)
 | []=>rfl
 |e::es=>by simp[aM,iW,Ab es]
theorem JX {A B:Es}{g:G}{n m:Nat}(hn:g[n]? = some (aM A))(hm:g[m]? = some (aM B))(cY:n≠m)(hA:A ≠ [])(nd:((A++B).map ky).Nodup)(hl:A.length+B.length<=100):fw (.aI n) [.aI m] g=some (.ao,g.set n (aM (A++B))):=by
 have hp:=tG B A g hn nd hl
 cases A with
 |nil=>exact absurd rfl hA
 |cons a A =>
  have hf:aM (a::A)=kd (ky a)::a.2.2::aM A:=rfl
  simp only[fw,hn,hm,Option.bind_some,if_neg cY]
  rw[hf]
  simp only[Ab,hp,Option.map_some]
theorem Fx (c:D):∀b:Nat,1<=b->b<=5->w8 (aM (aB "box" b c))=true:=by
 intro b h1 h5
 have:b=1\/b=2\/b=3\/b=4\/b=5:=by omega
 rcases this with rfl|rfl|rfl|rfl|rfl<;>rfl
theorem Fy {g:G}{n m b:Nat}{c:D}(hn:g[n]? = some [])(hm:g[m]? = some (aM (aB "box" b c)))(cY:n≠m)(h1:1<=b)(h5:b<=5):fw (.aI n) [.aI m] g=some (.ao,g.set n (aM (aB "box" b c))):=by
 simp only[fw,hn,hm,Option.bind_some,if_neg cY,Fx c b h1 h5,if_true]
noncomputable def tw (x:Str):FT:=ay (ai oEq (ai aD (ab 0) (fC (.int 0))) (fC (.str x)))
theorem ip {x w:Str}{r:List D}{σ:Sg}{g:G}(h0:σ[0]? = some (some (.tup (.str w::r)))):tw x σ g=some (w == x,g):=by
 simp[tw,h0,du]
noncomputable def Ac (f:FE):FE:=ag cD (aa (bp bA (bP (aa f af)) [none,none] (gN 1) bw (fC (.int 0))) af)
theorem Dk {f:FE}{σ:Sg}{g:G}{n:Nat}(hn:n<=20)(h:f σ g=some (.int n,g)):Ac f σ g=some (zs n,g):=by
 have key:wp (Ac f σ g) λr=>r=(zs n,g):=by
  unfold Ac
  simp only[eY,bN,cp,wp_bind]
  refine zK (dg ?_)
  simp only[bN,cp,h,Option.bind_some,ba]
  refine⟨n,rfl,by omega,by omega,aY (by rw[bH];omega),?_⟩
  have c1:=jq (t:=gN 1) (c:=bw) (e:=fC (.int 0)) (h:=λ_=>D.int 0) (λσ=>∃o,σ = [none,o]) (dH 0 ((n:Int)).toNat) [none,none] g ⟨_,rfl⟩ (by
   rintro d hm σ ⟨o,rfl⟩
   exact⟨[none,some d],by simp,by simp,by simp,⟨_,rfl⟩⟩)
  have sb:bM [none,none] σ = [none,none]:=rfl
  rw[sb,c1]
  have hr:(dH 0 ((n:Int)).toNat).map (λ_=>D.int 0)=List.replicate n (.int 0):=by
   rw[List.map_const',bH];simp
  rw[hr]
  have hz:aC (List.replicate n (D.int 0)).length=true:=aY (by simp;omega)
  simp only[ba,bA,hz,if_true,Option.bind_some]
  simp only[cD,cM,Option.bind_some,hz,if_true,ba,zs]
 obtain⟨q,e,rfl⟩:=key
 exact e
noncomputable def tV (x:Str):FE:=aA aq (aa (fC (.str x)) (aa (ab 4) af))
noncomputable def nE:FS:=aj (a_ (tw "once") (ax (fC (.int 0)) (cS (ab 1) (tV "own"))) aF) (aj (a_ (tw "twice") (ax (aA aq (aa (fC (.int 0)) (aa (fC (.int 0)) af))) (cS (ab 1) (tV "own"))) aF) (aj (a_ (tw "handed") (ax (aA aq (aa (fC (.int 0)) (aa (fC (.int 0)) (aa (ab 3) af)))) (cS (ab 1) (tV "own"))) aF) (aj (a_ (tw "signs") (ax (aA aq (aa (fC (.int 0)) (aa (ab 3) (aa (fC (.int 0)) (aa (ab 3) af))))) (cS (ab 1) (tV "own"))) aF) (a_ (tw "shared") (ax (Ac (ai aD (ab 0) (fC (.int 2)))) (cS (ab 1) (tV "view"))) aF))))
noncomputable abbrev D5 (d:D)(m n:Nat)(o4:Option D):Sg:=[some d,some (.aI m),some (.int n),some (zs n),o4]
theorem Fz {w:Str}{j:Nat}{c:D}{g:G}:cE (aM (aB w j c)) (.tup [.str w,.int j]) c=aM (aB w (j+1) c):=by
 have hn:(w,[(j:Int)]) ∉ (aB w j c).map ky:=λhm=>by
  rw[nD]at hm
  obtain⟨i,hi,e⟩:=List.mem_map.mp hm
  have:=List.mem_range.mp hi
  simp at e
  omega
 have:=kU (c:=c) (aB w j c) hn
 have e2:aB w (j+1) c=aB w j c ++ [(w,[(j:Int)],c)]:=by simp[aB,List.range_succ]
 rw[e2,kS]
 exact this
theorem JY {w:Str}{j:Nat}{c:D}(h:j<=20):mY (aM (aB w j c))=true:=by
 unfold mY
 exact aY (by rw[kT,bO];omega)
theorem LA (w:Str)(j:Nat):aP 6 (.tup [.str w,.int j])=true:=xh (w,[(j:Int)])
def oz (d:D)(n:Nat)(w:Str)(c:D):Prop:=∀(j:Nat) (g:G),j<=10->nE (D5 d g.length n (some (.int j))) (g ++ [aM (aB w j c)])=some (.nx,D5 d g.length n (some (.int j)),g ++ [aM (aB w (j+1) c)])
theorem nq:(("once":Str)== "twice")=false/\(("once":Str)== "handed")=false/\(("once":Str)== "signs")=false/\(("once":Str)== "shared")=false/\(("twice":Str)== "once")=false/\(("twice":Str)== "handed")=false/\(("twice":Str)== "signs")=false/\(("twice":Str)== "shared")=false/\(("handed":Str)== "once")=false/\(("handed":Str)== "twice")=false/\(("handed":Str)== "signs")=false/\(("handed":Str)== "shared")=false:=by decide
theorem nr:(("signs":Str)== "once")=false/\(("signs":Str)== "twice")=false/\(("signs":Str)== "handed")=false/\(("signs":Str)== "shared")=false/\(("shared":Str)== "once")=false/\(("shared":Str)== "twice")=false/\(("shared":Str)== "handed")=false/\(("shared":Str)== "signs")=false/\(("tables":Str)== "once")=false/\(("tables":Str)== "twice")=false/\(("tables":Str)== "handed")=false/\(("tables":Str)== "signs")=false/\(("tables":Str)== "shared")=false:=by decide
theorem aK {f1 f2:FS}{σ σ1:Sg}{g g1:G}(h:f1 σ g=some (.nx,σ1,g1)):aj f1 f2 σ g=f2 σ1 g1:=by rw[kG,h];rfl
theorem cB {c:FT}{f:FS}{σ:Sg}{g:G}(h:c σ g=some (false,g)):a_ c f aF σ g=some (.nx,σ,g):=by simp[h]
theorem nF {c:FT}{f:FS}{σ:Sg}{g:G}(h:c σ g=some (true,g)):a_ c f aF σ g=f σ g:=by simp[h]
theorem i6 {d:D}{n j:Nat}{w:Str}{c:D}{f:FE}{g:G}(hj:j<=10)(h:f (D5 d g.length n (some (.int j))) (g ++ [aM (aB w j c)])=some (c,g ++ [aM (aB w j c)])):
  ax f (cS (ab 1) (tV w)) (D5 d g.length n (some (.int j))) (g ++ [aM (aB w j c)])=some (.nx,D5 d g.length n (some (.int j)),g ++ [aM (aB w (j+1) c)]):=by
 have p:=Fz (w:=w) (j:=j) (c:=c) (g:=g)
 have k:=LA w j
 have z:=JY (w:=w) (j:=j) (c:=c) (by omega)
 simp[h,tV,k,z,p,List.set_append]
theorem Ad {n:Nat}:oz (.tup [.str "once",.int n]) n "own" (.int 0):=λj g hj=>by
 have t:=λ(x:Str) (o:Option D) (m:Nat) (g:G)=>ip (x:=x) (w:="once") (r:=[.int n]) (σ:=D5 (.tup [.str "once",.int n]) m n o) (g:=g) rfl
 obtain⟨q1,q2,q3,q4,_⟩:=nq
 unfold nE
 rw[aK ((nF (by rw[t];rfl)).trans (i6 hj rfl)),aK (cB (by rw[t,q1])),aK (cB (by rw[t,q2])),aK (cB (by rw[t,q3])),cB (by rw[t,q4])]
theorem xo {n:Nat}{u:Int}:oz (.tup [.str "twice",.int n,.int u]) n "own" (.tup [.int 0,.int 0]):=λj g hj=>by
 have t:=λ(x:Str) (o:Option D) (m:Nat) (g:G)=>ip (x:=x) (w:="twice") (r:=[.int n,.int u]) (σ:=D5 (.tup [.str "twice",.int n,.int u]) m n o) (g:=g) rfl
 obtain⟨_,_,_,_,q1,q2,q3,q4,_⟩:=nq
 unfold nE
 rw[aK (cB (by rw[t,q1])),aK ((nF (by rw[t];rfl)).trans (i6 hj rfl)),aK (cB (by rw[t,q2])),aK (cB (by rw[t,q3])),cB (by rw[t,q4])]
theorem uf {n:Nat}{u v:Int}:oz (.tup [.str "handed",.int n,.int u,.int v]) n "own" (.tup [.int 0,.int 0,zs n]):=λj g hj=>by
 have t:=λ(x:Str) (o:Option D) (m:Nat) (g:G)=>ip (x:=x) (w:="handed") (r:=[.int n,.int u,.int v]) (σ:=D5 (.tup [.str "handed",.int n,.int u,.int v]) m n o) (g:=g) rfl
 obtain⟨_,_,_,_,_,_,_,_,q1,q2,q3,q4⟩:=nq
 unfold nE
 rw[aK (cB (by rw[t,q1])),aK (cB (by rw[t,q2])),aK ((nF (by rw[t];rfl)).trans (i6 hj rfl)),aK (cB (by rw[t,q3])),cB (by rw[t,q4])]
theorem xp {n:Nat}{a b v:Int}:oz (.tup [.str "signs",.int n,.int a,.int b,.int v]) n "own" (.tup [.int 0,zs n,.int 0,zs n]):=λj g hj=>by
 have t:=λ(x:Str) (o:Option D) (m:Nat) (g:G)=>ip (x:=x) (w:="signs") (r:=[.int n,.int a,.int b,.int v]) (σ:=D5 (.tup [.str "signs",.int n,.int a,.int b,.int v]) m n o) (g:=g) rfl
 obtain⟨q1,q2,q3,q4,_⟩:=nr
 unfold nE
 rw[aK (cB (by rw[t,q1])),aK (cB (by rw[t,q2])),aK (cB (by rw[t,q3])),aK ((nF (by rw[t];rfl)).trans (i6 hj rfl)),cB (by rw[t,q4])]
theorem ug {n p:Nat}{a b v:Int}(hp:p<=5):oz (.tup [.str "shared",.int n,.int p,.int a,.int b,.int v]) n "view" (zs p):=λj g hj=>by
 have t:=λ(x:Str) (o:Option D) (m:Nat) (g:G)=>ip (x:=x) (w:="shared") (r:=[.int n,.int p,.int a,.int b,.int v]) (σ:=D5 (.tup [.str "shared",.int n,.int p,.int a,.int b,.int v]) m n o) (g:=g) rfl
 obtain⟨_,_,_,_,q1,q2,q3,q4,_⟩:=nr
 unfold nE
 rw[aK (cB (by rw[t,q1])),aK (cB (by rw[t,q2])),aK (cB (by rw[t,q3])),aK (cB (by rw[t,q4])),(nF (by rw[t];rfl)).trans (i6 hj (Dk (n:=p) (by omega) rfl))]
noncomputable def dL:FS:=cK (bP (aa (ab 2) af)) (gN 4) nE
def Su (d:D)(n:Nat)(w:Str)(c:D)(g:G)(j:Nat)(σ:Sg)(gg:G):Prop:=∃o,σ=D5 d g.length n o/\gg=g ++ [aM (aB w j c)]
theorem nG {d:D}{n:Nat}{w:Str}{c:D}{g:G}{o:Option D}(hn:n<=5)(h:oz d n w c):∃o',dL (D5 d g.length n o) (g ++ [[]])=some (.nx,D5 d g.length n o',g ++ [aM (aB w n c)]):=by
 have key:wp (dL (D5 d g.length n o) (g ++ [[]])) λr=>∃o',r=(.nx,D5 d g.length n o',g ++ [aM (aB w n c)]):=by
  unfold dL
  simp only[kH,wp_bind]
  refine dg ?_
  simp only[bN,cp,cQ,List.getElem?_cons_succ,List.getElem?_cons_zero,Option.bind_some,ba]
  refine⟨n,rfl,by omega,by omega,?_⟩
  refine c7 (Su d n w c g) (dH 0 ((n:Int)).toNat) 0 _ _ ⟨_,rfl,by simp[aB,aM]⟩ ?_ ?_
  . rintro j e σ gg hj ⟨o,rfl,rfl⟩
    obtain⟨mL,rfl⟩:=cx hj
    rw[Nat.zero_add]
    simp only[jo,ba,List.set_cons_succ,List.set_cons_zero]
    have:=h j g (by omega)
    rw[show([some d,some (D.aI g.length),some (D.int n),some (zs n),some (D.int j)]:Sg)=D5 d g.length n (some (.int j)) from rfl,this]
    simp only[ba]
    exact⟨_,rfl,rfl⟩
  . rintro σ gg ⟨o,rfl,rfl⟩
    rw[bH]
    have:(0+((n:Int)).toNat)=n:=by omega
    rw[this]
    exact⟨o,rfl⟩
 obtain⟨r,e,o',rfl⟩:=key
 exact⟨o',e⟩
theorem Ae {n bx:Nat}{T1 T2:D}{g:G}{o:Option D}(hn:n<=5):∃o',dL (D5 (.tup [.str "tables",.int n,.int bx,T1,T2]) g.length n o) (g ++ [[]])=some (.nx,D5 (.tup [.str "tables",.int n,.int bx,T1,T2]) g.length n o',g ++ [[]]):=by
 have key:wp (dL (D5 (.tup [.str "tables",.int n,.int bx,T1,T2]) g.length n o) (g ++ [[]])) λr=>∃o',r=(.nx,D5 (.tup [.str "tables",.int n,.int bx,T1,T2]) g.length n o',g ++ [[]]):=by
  unfold dL
  simp only[kH,wp_bind]
  refine dg ?_
  simp only[bN,cp,cQ,List.getElem?_cons_succ,List.getElem?_cons_zero,Option.bind_some,ba]
  refine⟨n,rfl,by omega,by omega,?_⟩
  refine c7 (λ_ σ gg=>∃o,σ=D5 (.tup [.str "tables",.int n,.int bx,T1,T2]) g.length n o/\gg=g ++ [[]]) (dH 0 ((n:Int)).toNat) 0 _ _ ⟨_,rfl,rfl⟩ ?_ ?_
  . rintro j e σ gg hj ⟨o,rfl,rfl⟩
    simp only[jo,ba,List.set_cons_succ,List.set_cons_zero]
    have t:=λ(x:Str) (o:Option D) (m:Nat) (g:G)=>ip (x:=x) (w:="tables") (r:=[.int n,.int bx,T1,T2]) (σ:=D5 (.tup [.str "tables",.int n,.int bx,T1,T2]) m n o) (g:=g) rfl
    obtain⟨_,_,_,_,_,_,_,_,q1,q2,q3,q4,q5⟩:=nr
    have e1:nE (D5 (.tup [.str "tables",.int n,.int bx,T1,T2]) g.length n (some e)) (g ++ [[]])=some (.nx,D5 (.tup [.str "tables",.int n,.int bx,T1,T2]) g.length n (some e),g ++ [[]]):=by
     unfold nE
     rw[aK (cB (by rw[t,q1])),aK (cB (by rw[t,q2])),aK (cB (by rw[t,q3])),aK (cB (by rw[t,q4])),cB (by rw[t,q5])]
    rw[show([some (D.tup [.str "tables",.int n,.int bx,T1,T2]),some (D.aI g.length),some (D.int n),some (zs n),some e]:Sg)=D5 (.tup [.str "tables",.int n,.int bx,T1,T2]) g.length n (some e) from rfl,e1]
    simp only[ba]
    exact⟨_,rfl,trivial⟩
  . rintro σ gg ⟨o,rfl,rfl⟩
    exact⟨o,rfl⟩
 obtain⟨r,e,o',rfl⟩:=key
 exact⟨o',e⟩
noncomputable abbrev St (g:G)(A:Es)(rest:G):G:=g++aM A::rest
theorem Dm {g:G}{A:Es}{rest:G}:(St g A rest)[g.length]? = some (aM A):=by simp
theorem Af {g:G}{A B:Es}{rest:G}(hA:A ≠ [])(nd:((A++B).map ky).Nodup)(hl:A.length+B.length<=100):fw (.aI g.length) [.aI (g.length+1+rest.length)] (St g A (rest ++ [aM B]))=some (.ao,St g (A++B) (rest ++ [aM B])):=by
 have h1:(St g A (rest ++ [aM B]))[g.length]? = some (aM A):=Dm
 have h2:(St g A (rest ++ [aM B]))[g.length+1+rest.length]? = some (aM B):=by
  rw[List.getElem?_append_right (by omega)]
  have:g.length+1+rest.length-g.length=rest.length+1:=by omega
  rw[this]
  simp
 rw[JX h1 h2 (by omega) hA nd hl]
 simp[St,List.set_append]
theorem vJ:∀es:Es,aJ (aM es)=es.map λe=>kd (ky e)
 | []=>rfl
 |e::es=>by simp[aM,aJ,vJ es]
theorem BS {es:Es}(hl:es.length<64):pq (es.map λe=>kd (ky e))=true:=by
 have h1:∀x∈es.map (λe=>kd (ky e)),fZ x=some 2:=λx hx=>by
  obtain⟨e,he,rfl⟩:=List.mem_map.mp hx
  rfl
 have hd:bC (es.map λe=>kd (ky e))<=1:=kQ λx hx=>by
  obtain⟨e,he,rfl⟩:=List.mem_map.mp hx
  rw[zM];exact Nat.le_refl _
 have hf:az (es.map λe=>kd (ky e))=true:=fA λx hx=>by
  obtain⟨e,he,rfl⟩:=List.mem_map.mp hx
  exact vE _
 simp only[pq,Bool.and_eq_true,decide_eq_true_eq,Bool.or_eq_true,List.all_eq_true,beq_iff_eq]
 refine⟨⟨⟨⟨by simpa using hl,hf⟩,by omega⟩,.inr (.inr (.inr h1))⟩,λx hx y hy=>?_⟩
 obtain⟨a,ha,rfl⟩:=List.mem_map.mp hx
 obtain⟨b,hb,rfl⟩:=List.mem_map.mp hy
 exact vG _ _
noncomputable def dR:FS:=aH (ag cD (aa (bp bA (eX (ag dW (aa (ab 1) af))) [none,none,some 1] (gN 1) bw (aA aq (aa (ab 1) (aa (ai aD (ab 2) (ab 1)) af)))) af))
def Told (E:Es)(d:D):Prop:=∃gs:Es,d = .tup (gs.map ent)/\gs.Perm E/\gs.Pairwise λa b=>ph (ky a)<ph (ky b)
theorem LB {d:D}{n:Nat}{o:Option D}{g:G}{E:Es}{rest:G}(hv:fV E)(nd:(E.map ky).Nodup)(hl:E.length<64):∃r,Told E r/\dR (D5 d g.length n o) (St g E rest)=some (.rt r,D5 d g.length n o,St g E rest):=by
 obtain⟨gs,e1,pm,pw⟩:=z_ hv nd
 refine⟨_,⟨gs,rfl,pm,pw⟩,?_⟩
 have gl:gs.length<64:=by rw[pm.length_eq];exact hl
 have h1:(St g E rest)[g.length]? = some (aM E):=Dm
 have so:dW [.aI g.length] (St g E rest)=some (.lst (gs.map λe=>kd (ky e)),St g E rest):=by
  simp only[dW,h1,Option.bind_some,vJ,BS hl,if_true,e1]
 have c1:cy (gN 1) bw (aA aq (aa (ab 1) (aa (ai aD (ab 2) (ab 1)) af))) (gs.map λe=>kd (ky e)) [none,none,some (.aI g.length)] (St g E rest)=some (gs.map ent,St g E rest):=by
  have:∀(fs:Es) (σ:Sg),(∀e∈fs,e∈E)->(∃o,σ = [none,o,some (.aI g.length)])->cy (gN 1) bw (aA aq (aa (ab 1) (aa (ai aD (ab 2) (ab 1)) af))) (fs.map λe=>kd (ky e)) σ (St g E rest)=some (fs.map ent,St g E rest):=by
   intro fs
   induction fs with
   |nil=>intro σ _ _;simp[cy]
   |cons e fs ih =>
    rintro σ hm ⟨o,rfl⟩
    have ge:=zO nd (hm e (by simp))
    have kk:=xh (ky e)
    have ox:aD (.aI g.length) (kd (ky e)) (St g E rest)=some (e.2.2,St g E rest):=by
     simp[h1,kk,ge]
    have i:=ih [none,some (kd (ky e)),some (.aI g.length)] (λx hx=>hm x (by simp[hx])) ⟨_,rfl⟩
    have en:ent e = .tup [kd (ky e),e.2.2]:=rfl
    rw[List.map_cons,List.map_cons,en]
    generalize kd (ky e)=k at *
    simp only[cy,jo,Option.bind_some,List.set_cons_succ,List.set_cons_zero,Bb,if_true,Ik,bN,cp,cQ,rS,List.getElem?_cons_succ,List.getElem?_cons_zero,ox,aq]
    simp[i]
  exact this gs _ (λe he=>pm.mem_iff.mp he) ⟨_,rfl⟩
 have hz:aC gs.length=true:=aY (by omega)
 have sb:bM [none,none,some 1] (D5 d g.length n o)= [none,none,some (.aI g.length)]:=rfl
 have Jg:aC (gs.map ent).length=true:=by rw[List.length_map];exact hz
 have Sv:aC (gs.map λe=>kd (ky e)).length=true:=by rw[List.length_map];exact hz
 unfold dR
 generalize gs.map ent=B at *
 generalize (gs.map λe=>kd (ky e))=C at *
 simp only[EF,eY,bN,cp,rT,eX,cQ,List.getElem?_cons_succ,List.getElem?_cons_zero,Option.bind_some,so,Sv,if_true,sb,c1]
 simp[bA,cD,cM,Jg]
noncomputable def Dp:FE:=bp bA (bP (aa (ai aD (ab 0) (fC (.int 2))) af)) [none,none,some 0] (gN 1) bw (aA aq (aa (aA aq (aa (fC (.str "box")) (aa (ab 1) af))) (aa (ai aD (aA cH (aa (fC (.int 0)) (aa (aA aq (aa (fC (.int 0)) (aa (j5 eW (fC (.int 1))) (aa (fC (.int 0)) af)))) af))) (ag dY (aa (ai oEq (ai aD (ab 2) (fC (.int 0))) (fC (.str "shared"))) af))) af)))
noncomputable def Sw:FT:=ay (ai md (ai aD (ab 0) (fC (.int 0))) (aA aq (aa (fC (.str "shared")) (aa (fC (.str "tables")) af))))
noncomputable def dU:FS:=a_ Sw (cL (dn fJ fw (ab 1) (aa (ag jB (aa Dp af)) af))) aF
noncomputable def gn (w:Str):D:=if w == "shared" then .tup [.int 0,.int (-1),.int 0]else .int 0
theorem Ag {w:Str}{n p:Nat}{r:List D}{m:Nat}{o:Option D}{g:G}(hp:p<=5):Dp (D5 (.tup (.str w :: .int n :: .int p::r)) m n o) g=some (.lst ((aB "box" p (gn w)).map ent),g):=by
 have key:wp (Dp (D5 (.tup (.str w :: .int n :: .int p::r)) m n o) g) λq=>q=(.lst ((aB "box" p (gn w)).map ent),g):=by
  unfold Dp
  refine zK (dg ?_)
  have a2:bW (.str w :: .int n :: .int p::r) 2=some (.int p):=tF (n:=2) rfl
  have ox:aD (.tup (.str w :: .int n :: .int p::r)) (.int 2) g=some (.int p,g):=by simp[a2]
  simp only[bN,cp,rS,cQ,Cz,List.getElem?_cons_succ,List.getElem?_cons_zero,Option.bind_some,ox,ba]
  refine⟨p,rfl,by omega,by omega,aY (by rw[bH];omega),?_⟩
  rw[show((p:Int)).toNat=p by omega]
  have c1:=jq (t:=gN 1) (c:=bw) (e:=aA aq (aa (aA aq (aa (fC (.str "box")) (aa (ab 1) af))) (aa (ai aD (aA cH (aa (fC (.int 0)) (aa (aA aq (aa (fC (.int 0)) (aa (j5 eW (fC (.int 1))) (aa (fC (.int 0)) af)))) af))) (ag dY (aa (ai oEq (ai aD (ab 2) (fC (.int 0))) (fC (.str "shared"))) af))) af))) (h:=λd=>D.tup [.tup [.str "box",d],gn w]) (λσ=>∃o,σ = [none,o,some (.tup (.str w :: .int n :: .int p::r))]) (dH 0 p) [none,none,some (.tup (.str w :: .int n :: .int p::r))] g ⟨_,rfl⟩ (by
   rintro d hm σ ⟨o,rfl⟩
   refine⟨[none,some d,some (.tup (.str w :: .int n :: .int p::r))],by simp,by simp,?_,⟨_,rfl⟩⟩
   have Sx:bW [D.int 0,.tup [.int 0,.int (-1),.int 0]] 0=some (.int 0):=rfl
   have a11:bW [D.int 0,.tup [.int 0,.int (-1),.int 0]] 1=some (.tup [.int 0,.int (-1),.int 0]):=rfl
   have aw:bW (.str w :: .int n :: .int p::r) 0=some (.str w):=tF (n:=0) rfl
   unfold gn
   cases hw:(w == "shared")<;>simp[aw,hw,eW,Sx,a11])
  have sb:bM [none,none,some 0] (D5 (.tup (.str w :: .int n :: .int p::r)) m n o)= [none,none,some (.tup (.str w :: .int n :: .int p::r))]:=rfl
  rw[sb,c1]
  simp[aB,dH,ent,kd]
 obtain⟨q,e,rfl⟩:=key
 exact e
theorem tX {es:Es}{g:G}(nd:(es.map ky).Nodup)(hl:es.length<=100):jB [.lst (es.map ent)] g=some (.aI g.length,g ++ [aM es]):=by
 have:=tG (n:=g.length) es [] (g ++ [[]]) (by simp[aM]) (by simpa using nd) (by simpa using hl)
 simp only[jB,zP,Option.bind_some,this]
 simp
noncomputable def nH (a b:Str):FT:=ay (ai md (ai aD (ab 0) (fC (.int 0))) (aA aq (aa (fC (.str a)) (aa (fC (.str b)) af))))
theorem fW {a b w:Str}{r:List D}{σ:Sg}{g:G}(h0:σ[0]? = some (some (.tup (.str w::r)))):nH a b σ g=some (a == w||b == w,g):=by
 simp[nH,h0,du,lJ,cM,CH,flat,az,dep,bC,JS]
theorem nI {w:Str}{r:List D}{m n:Nat}{o:Option D}{g:G}(h:((("shared":Str)== w)||(("tables":Str)== w))=false):dU (D5 (.tup (.str w::r)) m n o) g=some (.nx,D5 (.tup (.str w::r)) m n o,g):=by
 have:=fW (a:="shared") (b:="tables") (w:=w) (r:=r) (σ:=D5 (.tup (.str w::r)) m n o) (g:=g) rfl
 rw[h]at this
 exact cB this
theorem tY (p:Nat)(c:D)(hp:p<=5):((aB "box" p c).map ky).Nodup:=by
 rw[nD]
 have:p=0\/p=1\/p=2\/p=3\/p=4\/p=5:=by omega
 rcases this with rfl|rfl|rfl|rfl|rfl|rfl<;>decide +kernel
theorem JZ {w:Str}{n p:Nat}{r:List D}{o:Option D}{g:G}{A:Es}(hw:((("shared":Str)== w)||(("tables":Str)== w))=true)(hp:p<=5)(hA:A ≠ [])(nd:((A++aB "box" p (gn w)).map ky).Nodup)(hl:A.length<=50):dU (D5 (.tup (.str w :: .int n :: .int p::r)) g.length n o) (St g A [])=some (.nx,D5 (.tup (.str w :: .int n :: .int p::r)) g.length n o,St g (A++aB "box" p (gn w)) [aM (aB "box" p (gn w))]):=by
 have t:=fW (a:="shared") (b:="tables") (w:=w) (r:=.int n :: .int p::r) (σ:=D5 (.tup (.str w :: .int n :: .int p::r)) g.length n o) (g:=St g A []) rfl
 rw[hw]at t
 refine(nF t).trans ?_
 have e1:=Ag (w:=w) (n:=n) (p:=p) (r:=r) (m:=g.length) (o:=o) (g:=St g A []) hp
 have MN:=tY p (gn w) hp
 have e2:=tX (es:=aB "box" p (gn w)) (g:=St g A []) MN (by rw[bO];omega)
 have e3:=Af (g:=g) (A:=A) (B:=aB "box" p (gn w)) (rest:=[]) hA nd (by rw[bO];omega)
 have l1:(St g A []).length=g.length+1+([]:G).length:=by simp
 have s1:St g A [] ++ [aM (aB "box" p (gn w))]=St g A ([] ++ [aM (aB "box" p (gn w))]):=by simp
 rw[l1,s1]at e2
 simp only[lX,oo,cQ,bN,cp,eY,List.getElem?_cons_succ,List.getElem?_cons_zero,Option.bind_some,oq,if_true,e1,e2,e3]
 rfl
theorem J0 {n p:Nat}{T1 T2:D}{o:Option D}{g:G}(h1:1<=p)(hp:p<=5):dU (D5 (.tup [.str "tables",.int n,.int p,T1,T2]) g.length n o) (g ++ [[]])=some (.nx,D5 (.tup [.str "tables",.int n,.int p,T1,T2]) g.length n o,St g (aB "box" p (.int 0)) [aM (aB "box" p (.int 0))]):=by
 have t:=fW (a:="shared") (b:="tables") (w:="tables") (r:=[.int n,.int p,T1,T2]) (σ:=D5 (.tup [.str "tables",.int n,.int p,T1,T2]) g.length n o) (g:=g ++ [[]]) rfl
 refine(nF (t.trans (by rfl))).trans ?_
 have e1:=Ag (w:="tables") (n:=n) (p:=p) (r:=[T1,T2]) (m:=g.length) (o:=o) (g:=g ++ [[]]) hp
 have hb:gn "tables" = .int 0:=by unfold gn;rw[if_neg (by decide)]
 rw[hb]at e1
 have e2:=tX (es:=aB "box" p (.int 0)) (g:=g ++ [[]]) (tY p _ hp) (by rw[bO];omega)
 have e3:=Fy (g:=g ++ [[]] ++ [aM (aB "box" p (.int 0))]) (n:=g.length) (m:=(g ++ [[]]).length) (b:=p) (c:=.int 0) (by simp) (by simp) (by simp) h1 hp
 simp only[lX,oo,cQ,bN,cp,eY,List.getElem?_cons_succ,List.getElem?_cons_zero,Option.bind_some,oq,if_true,e1,e2,e3]
 simp[St,List.set_append]
noncomputable def iq:FT:=ay (ai oEq (ai aD (ab 0) (j5 eW (fC (.int 2)))) (fC (.int 1)))
noncomputable def oA (f:Fn)(x:Str):FS:=cL (dn fJ fw (ab 1) (aa (ag f (aa (fC (.str x)) (aa (ab 2) af))) af))
noncomputable def dS (f:Fn):FS:=a_ (cU (nH "signs" "shared") iq) (oA f "sign") aF
noncomputable def dK (f:Fn):FS:=a_ (cU (tw "shared") iq) (oA f "call") aF
theorem oB {f:Fn}{x:Str}{d:D}{n:Nat}{o:Option D}{g:G}{A:Es}{rest:G}(hf:lb f)(hn:n<=5)(hA:A ≠ [])(nd:((A++bu x n).map ky).Nodup)(hl:A.length<=70):∃LC,oA f x (D5 d g.length n o) (St g A rest)=some (.nx,D5 d g.length n o,St g (A++bu x n) LC):=by
 refine⟨rest ++ [aM (bu x n)],?_⟩
 have e2:=hf x n (St g A rest) hn
 have lc:(bu x n).length<=25:=by
  have:=eu (w:=x) (n:=n) n
  have h5:n*n<=5*5:=Nat.mul_le_mul hn hn
  unfold bu
  omega
 have e3:=Af (g:=g) (A:=A) (B:=bu x n) (rest:=rest) hA nd (by omega)
 have l1:(St g A rest).length=g.length+1+rest.length:=by simp;omega
 have s1:St g A rest ++ [aM (bu x n)]=St g A (rest ++ [aM (bu x n)]):=by simp
 rw[l1,s1]at e2
 unfold oA
 simp only[lX,oo,cQ,Cz,bN,cp,eY,List.getElem?_cons_succ,List.getElem?_cons_zero,Option.bind_some,oq,if_true,e2,e3]
theorem qm {f:Fn}{w:Str}{r:List D}{m n:Nat}{o:Option D}{g:G}(h:((("signs":Str)== w)||(("shared":Str)== w))=false):dS f (D5 (.tup (.str w::r)) m n o) g=some (.nx,D5 (.tup (.str w::r)) m n o,g):=by
 have:=fW (a:="signs") (b:="shared") (w:=w) (r:=r) (σ:=D5 (.tup (.str w::r)) m n o) (g:=g) rfl
 rw[h]at this
 exact cB (by simp[this])
theorem lg {f:Fn}{w:Str}{r:List D}{m n:Nat}{o:Option D}{g:G}(h:(w == ("shared":Str))=false):dK f (D5 (.tup (.str w::r)) m n o) g=some (.nx,D5 (.tup (.str w::r)) m n o,g):=by
 have:=ip (x:="shared") (w:=w) (r:=r) (σ:=D5 (.tup (.str w::r)) m n o) (g:=g) rfl
 rw[h]at this
 exact cB (by simp[this])
theorem xq {xs:List D}{b:Int}{m n:Nat}{o:Option D}{g:G}(h:bW xs (-2)=some (.int b)):iq (D5 (.tup xs) m n o) g=some (b == 1,g):=by
 simp[iq,eW,h]
theorem g_ {w:Str}{p:Nat}{c:D}(hw:w∈(["box","own","view"]:List Str))(hp:p<=5):fV (aB w p c):=λe he=>by
 obtain⟨j,hj,rfl⟩:=List.mem_map.mp he
 have:=List.mem_range.mp hj
 exact .one w j hw (by omega) (by omega)
theorem J2 {w:Str}{n:Nat}(hw:w∈(["call","sign"]:List Str))(hn:n<=5):fV (bu w n):=λe he=>by
 obtain⟨i,j,hi,hj,_,rfl⟩:=oy (I:=n) he
 exact .two w i j hw (by omega) (by omega) (by omega) (by omega)
theorem i_ {a b:Es}(h1:fV a)(h2:fV b):fV (a++b):=λe he=>by
 rcases List.mem_append.mp he with he|he
 . exact h1 e he
 . exact h2 e he
theorem Ah {b:Int}{ws:List Str}{n:Nat}(hw:∀w∈ws,w∈(["call","sign"]:List Str))(hn:n<=5):fV (bK b ws n):=λe he=>by
 unfold bK at he
 split at he
 . obtain⟨w,hm,he⟩:=List.mem_flatMap.mp he
   exact J2 (hw w hm) hn e he
 . cases he
theorem Mn.vk {d n p w c r}(M:Mn d n p w c r):fV (aB w p c++r):=by
 cases M with
 |once n h1=>exact i_ (g_ (by simp) h1) (λe he=>by cases he)
 |twice n t h1=>exact i_ (g_ (by simp) h1) (λe he=>by cases he)
 |handed n t m h1=>exact i_ (g_ (by simp) h1) (λe he=>by cases he)
 |signs n a b m h1=>exact i_ (g_ (by simp) h1) (Ah (by simp) h1)
 |shared n p a b m h1 h2=>exact i_ (g_ (by simp) h2) (i_ (g_ (by simp) h1) (Ah (by simp) h1))
theorem Told.perm {E F:Es}{x:D}(h:Told E x)(p:E.Perm F):Told F x:=let⟨gs,e,pm,pw⟩:=h;⟨gs,e,pm.trans p,pw⟩
theorem Told.eq {E:Es}{x y:D}(h:Told E x)(k:Told E y):x=y:=by
 obtain⟨gs,rfl,p1,w1⟩:=h
 obtain⟨fs,rfl,p2,w2⟩:=k
 rw[Aa p1 p2 (List.Perm.refl _) w1 w2]
noncomputable def tZ (f:Fn):FS:=aj (ax jy (gN 1)) (aj (ax (ai aD (ab 0) (fC (.int 1))) (gN 2)) (aj (ax (Ac (ab 2)) (gN 3)) (aj dL (aj dU (aj (dS f) (aj (dK f) dR))))))
structure J3 (f:Fn)(d:D)(n:Nat)(g:G)(E0:Es):Prop where
 ex:∃o E rest,aj dL (aj dU (aj (dS f) (aj (dK f) dR))) (D5 d g.length n none) (g ++ [[]])=dR (D5 d g.length n o) (St g E rest)/\E.Perm E0
theorem pG {f:Fn}{xs:List D}{n:Nat}{g:G}{E0:Es}(hn:n<=5)(hd:bW xs 1=some (.int n))(hv:fV E0)(nd:(E0.map ky).Nodup)(hl:E0.length<64)(ct:Ct E0)(hc:Clean g)(h:J3 f (.tup xs) n g E0):∃x,Told E0 x/\av false 5 1 (tZ f) [.tup xs] g=some (x,g):=by
 obtain⟨o,E,rest,e,pm⟩:=h.ex
 have Sy:fV E:=λx hx=>hv x (pm.mem_iff.mp hx)
 have Sz:(E.map ky).Nodup:=(pm.map ky).nodup_iff.mpr nd
 have SA:E.length<64:=by rw[pm.length_eq];exact hl
 obtain⟨x,hx,eR⟩:=LB (d:=.tup xs) (n:=n) (o:=o) (g:=g) (rest:=rest) Sy Sz SA
 refine⟨x,hx.perm pm,?_⟩
 obtain⟨gs,rfl,pg,_⟩:=hx
 have fl:az (gs.map ent)=true:=gY λa ha=>ct a (pm.mem_iff.mp (pg.mem_iff.mp ha))
 have key:wp (av false 5 1 (tZ f) [.tup xs] g) λq=>q=(.tup (gs.map ent),g):=by
  refine n0 rfl ?_
  have ox:∀g:G,aD (.tup xs) (.int 1) g=some (.int n,g):=λg=>by simp[hd]
  have z:=Dk (f:=ab 2) (σ:=[some (.tup xs),some (.aI g.length),some (.int n),none,none]) (g:=g ++ [[]]) (n:=n) (by omega) rfl
  have e':tZ f [some (.tup xs),none,none,none,none] g=some (.rt (.tup (gs.map ent)),D5 (.tup xs) g.length n o,St g E rest):=by
   unfold tZ
   rw[aK (σ1:=[some (.tup xs),some (.aI g.length),none,none,none]) (g1:=g ++ [[]]) (by simp),aK (σ1:=[some (.tup xs),some (.aI g.length),some (.int n),none,none]) (g1:=g ++ [[]]) (by simp[hd]),aK (σ1:=D5 (.tup xs) g.length n none) (g1:=g ++ [[]]) (by simp[z]),e,eR]
  show wp (tZ f [some (.tup xs),none,none,none,none] g) _
  rw[e']
  simp only[ba]
  exact⟨by simpa[dC]using cT _ fl,by simpa using hc.all _,by simp,by simp⟩
 obtain⟨q,e,rfl⟩:=key
 exact e
theorem J4 {f:Fn}{σ:Sg}{g:G}{r:Option (F×Sg×G)}(h:cU (nH "signs" "shared") iq σ g=some (true,g))(e:oA f "sign" σ g=r):dS f σ g=r:=(nF h).trans e
theorem J5 {f:Fn}{σ:Sg}{g:G}(h:cU (nH "signs" "shared") iq σ g=some (false,g)):dS f σ g=some (.nx,σ,g):=cB h
theorem Pa {f:Fn}{σ:Sg}{g:G}{r:Option (F×Sg×G)}(h:cU (tw "shared") iq σ g=some (true,g))(e:oA f "call" σ g=r):dK f σ g=r:=(nF h).trans e
theorem Pb {f:Fn}{σ:Sg}{g:G}(h:cU (tw "shared") iq σ g=some (false,g)):dK f σ g=some (.nx,σ,g):=cB h
theorem Ai {w:Str}{n:Nat}{c:D}(h:1<=n):aB w n c ≠ []:=λz=>by
 have:=congrArg List.length z
 rw[bO]at this
 simp at this
 omega
theorem SD {f:Fn}(hf:lb f){d:D}{n p:Nat}{w:Str}{c:D}{r:Es}(M:Mn d n p w c r)(hn:1<=n)(g:G):J3 f d n g (aB w p c++r):=by
 have nd:=M.nd
 cases M with
 |once n h1 =>
  obtain⟨o,e⟩:=nG (g:=g) (o:=none) h1 (Ad (n:=n))
  refine⟨o,aB "own" n (.int 0),[],?_,by simp⟩
  rw[aK e,aK (nI rfl),aK (qm rfl),aK (lg rfl)]
 |twice n t h1 =>
  obtain⟨o,e⟩:=nG (g:=g) (o:=none) h1 (xo (n:=n) (u:=t))
  refine⟨o,aB "own" n (.tup [.int 0,.int 0]),[],?_,by simp⟩
  rw[aK e,aK (nI rfl),aK (qm rfl),aK (lg rfl)]
 |handed n t m h1 =>
  obtain⟨o,e⟩:=nG (g:=g) (o:=none) h1 (uf (n:=n) (u:=t) (v:=m))
  refine⟨o,aB "own" n (.tup [.int 0,.int 0,zs n]),[],?_,by simp⟩
  rw[aK e,aK (nI rfl),aK (qm rfl),aK (lg rfl)]
 |signs n a b m h1 =>
  obtain⟨o,e⟩:=nG (g:=g) (o:=none) h1 (xp (n:=n) (a:=a) (b:=b) (v:=m))
  have t1:=λ(o:Option D) (g:G)=>fW (a:="signs") (b:="shared") (w:="signs") (r:=[.int n,.int a,.int b,.int m]) (σ:=D5 (.tup [.str "signs",.int n,.int a,.int b,.int m]) g.length n o) (g:=g) rfl
  by_cases hb:b=1
  . subst hb
    have es:bK 1 ["sign"] n=bu "sign" n:=by simp[bK]
    rw[es]at nd ⊢
    obtain⟨rest,e2⟩:=oB (d:=.tup [.str "signs",.int n,.int a,.int 1,.int m]) (o:=o) (g:=g) (rest:=[]) hf h1 (Ai hn) nd (by rw[bO];omega)
    refine⟨o,_,rest,?_,List.Perm.refl _⟩
    have ty:cU (nH "signs" "shared") iq (D5 (.tup [.str "signs",.int n,.int a,.int 1,.int m]) g.length n o) (St g (aB "own" n (.tup [.int 0,zs n,.int 0,zs n])) [])=some (true,St g (aB "own" n (.tup [.int 0,zs n,.int 0,zs n])) []):=by
     have u1:=fW (a:="signs") (b:="shared") (w:="signs") (r:=[.int n,.int a,.int 1,.int m]) (σ:=D5 (.tup [.str "signs",.int n,.int a,.int 1,.int m]) g.length n o) (g:=St g (aB "own" n (.tup [.int 0,zs n,.int 0,zs n])) []) rfl
     have u2:=xq (xs:=[.str "signs",.int n,.int a,.int 1,.int m]) (b:=1) (m:=g.length) (n:=n) (o:=o) (g:=St g (aB "own" n (.tup [.int 0,zs n,.int 0,zs n])) []) rfl
     simp[u1,u2]
    rw[aK e,aK (nI rfl),aK (J4 ty e2),aK (lg rfl)]
  . have es:bK b ["sign"] n = []:=by simp[bK,hb]
    rw[es]
    refine⟨o,aB "own" n (.tup [.int 0,zs n,.int 0,zs n]),[],?_,by rw[List.append_nil]⟩
    have ty:cU (nH "signs" "shared") iq (D5 (.tup [.str "signs",.int n,.int a,.int b,.int m]) g.length n o) (St g (aB "own" n (.tup [.int 0,zs n,.int 0,zs n])) [])=some (false,St g (aB "own" n (.tup [.int 0,zs n,.int 0,zs n])) []):=by
     have u1:=fW (a:="signs") (b:="shared") (w:="signs") (r:=[.int n,.int a,.int b,.int m]) (σ:=D5 (.tup [.str "signs",.int n,.int a,.int b,.int m]) g.length n o) (g:=St g (aB "own" n (.tup [.int 0,zs n,.int 0,zs n])) []) rfl
     have u2:=xq (xs:=[.str "signs",.int n,.int a,.int b,.int m]) (b:=b) (m:=g.length) (n:=n) (o:=o) (g:=St g (aB "own" n (.tup [.int 0,zs n,.int 0,zs n])) []) rfl
     have eD:(b == 1)=false:=by simpa using hb
     rw[eD]at u2
     simp[u1,u2]
    rw[aK e,aK (nI rfl),aK (J5 ty),aK (lg rfl)]
 |shared n p a b m h1 h2 =>
  obtain⟨o,e⟩:=nG (g:=g) (o:=none) h1 (ug (n:=n) (p:=p) (a:=a) (b:=b) (v:=m) h2)
  have MX:gn "shared" = .tup [.int 0,.int (-1),.int 0]:=by unfold gn;rw[if_pos (by decide)]
  generalize hV:aB "view" n (zs p)=V at *
  have MY:V ≠ []:=by rw[<- hV];exact Ai hn
  have Tx:V.length<=5:=by rw[<- hV,bO];exact h1
  have Tz:(aB "box" p (.tup [.int 0,.int (-1),.int 0])).length<=5:=by rw[bO];exact h2
  have u1:=λ(g':G)=>fW (a:="signs") (b:="shared") (w:="shared") (r:=[.int n,.int p,.int a,.int b,.int m]) (σ:=D5 (.tup [.str "shared",.int n,.int p,.int a,.int b,.int m]) g.length n o) (g:=g') rfl
  have u3:=λ(g':G)=>ip (x:="shared") (w:="shared") (r:=[.int n,.int p,.int a,.int b,.int m]) (σ:=D5 (.tup [.str "shared",.int n,.int p,.int a,.int b,.int m]) g.length n o) (g:=g') rfl
  have u2:=λ(g':G)=>xq (xs:=[.str "shared",.int n,.int p,.int a,.int b,.int m]) (b:=b) (m:=g.length) (n:=n) (o:=o) (g:=g') rfl
  have eU:=JZ (w:="shared") (n:=n) (p:=p) (r:=[.int a,.int b,.int m]) (o:=o) (g:=g) (A:=V) rfl h2 MY (by
    rw[MX]
    have pm:(V++aB "box" p (.tup [.int 0,.int (-1),.int 0])++bK b ["call","sign"] n).Perm (aB "box" p (.tup [.int 0,.int (-1),.int 0])++(V++bK b ["call","sign"] n)):=by
     rw[List.append_assoc]
     exact(List.perm_append_comm_assoc _ _ _)
    have:=(pm.map ky).nodup_iff.mpr nd
    rw[List.map_append,List.nodup_append]at this
    exact this.1) (by omega)
  rw[MX]at eU
  by_cases hb:b=1
  . subst hb
    have es:bK 1 ["call","sign"] n=bu "call" n++bu "sign" n:=by simp[bK]
    rw[es]at nd ⊢
    have pm:((V++aB "box" p (.tup [.int 0,.int (-1),.int 0]))++bu "sign" n++bu "call" n).Perm (aB "box" p (.tup [.int 0,.int (-1),.int 0])++(V++(bu "call" n++bu "sign" n))):=by
     rw[List.append_assoc]
     refine(List.Perm.append List.perm_append_comm List.perm_append_comm).trans ?_
     rw[List.append_assoc]
    have J6:=(pm.map ky).nodup_iff.mpr nd
    have JA:(((V++aB "box" p (.tup [.int 0,.int (-1),.int 0]))++bu "sign" n).map ky).Nodup:=by
     rw[List.map_append,List.nodup_append]at J6
     exact J6.1
    have lc:∀x:Str,(bu x n).length<=25:=λx=>by
     have:=eu (w:=x) (n:=n) n
     have h5:n*n<=5*5:=Nat.mul_le_mul h1 h1
     unfold bu
     omega
    have cY:V++aB "box" p (.tup [.int 0,.int (-1),.int 0]) ≠ []:=λz=>MY (List.append_eq_nil_iff.mp z).1
    obtain⟨rest,e2⟩:=oB (d:=.tup [.str "shared",.int n,.int p,.int a,.int 1,.int m]) (o:=o) (g:=g) (rest:=[aM (aB "box" p (.tup [.int 0,.int (-1),.int 0]))]) hf h1 cY JA (by simp;omega)
    obtain⟨LD,e3⟩:=oB (d:=.tup [.str "shared",.int n,.int p,.int a,.int 1,.int m]) (o:=o) (g:=g) (rest:=rest) hf h1 (λz=>cY (List.append_eq_nil_iff.mp z).1) J6 (by have:=lc "sign";simp;omega)
    refine⟨o,_,LD,?_,pm⟩
    have ty:∀g':G,cU (nH "signs" "shared") iq (D5 (.tup [.str "shared",.int n,.int p,.int a,.int 1,.int m]) g.length n o) g'=some (true,g'):=λg'=>by simp[u1 g',u2 g']
    have tz:∀g':G,cU (tw "shared") iq (D5 (.tup [.str "shared",.int n,.int p,.int a,.int 1,.int m]) g.length n o) g'=some (true,g'):=λg'=>by simp[u3 g',u2 g']
    rw[aK e,aK eU,aK (J4 (ty _) e2),aK (Pa (tz _) e3)]
  . have es:bK b ["call","sign"] n = []:=by simp[bK,hb]
    rw[es]
    have eD:(b == 1)=false:=by simpa using hb
    refine⟨o,V++aB "box" p (.tup [.int 0,.int (-1),.int 0]),[aM (aB "box" p (.tup [.int 0,.int (-1),.int 0]))],?_,by rw[List.append_nil];exact List.perm_append_comm⟩
    have ty:∀g':G,cU (nH "signs" "shared") iq (D5 (.tup [.str "shared",.int n,.int p,.int a,.int b,.int m]) g.length n o) g'=some (false,g'):=λg'=>by
     have:=u2 g'
     rw[eD]at this
     simp[u1 g',this]
    have tz:∀g':G,cU (tw "shared") iq (D5 (.tup [.str "shared",.int n,.int p,.int a,.int b,.int m]) g.length n o) g'=some (false,g'):=λg'=>by
     have:=u2 g'
     rw[eD]at this
     simp[u3 g',this]
    rw[aK e,aK eU,aK (J5 (ty _)),aK (Pb (tz _))]
theorem xt {f:Fn}{n bx:Nat}{T1 T2:D}(hn:n<=5)(h1:1<=bx)(h5:bx<=5)(g:G):J3 f (.tup [.str "tables",.int n,.int bx,T1,T2]) n g (aB "box" bx (.int 0)):=by
 obtain⟨o,e⟩:=Ae (n:=n) (bx:=bx) (T1:=T1) (T2:=T2) (g:=g) (o:=none) hn
 refine⟨o,aB "box" bx (.int 0),[aM (aB "box" bx (.int 0))],?_,List.Perm.refl _⟩
 rw[aK e,aK (J0 h1 h5),aK (qm rfl),aK (lg rfl)]
noncomputable def Aj (listed:Fn):FS:=aH (ag cD (aa (ag dW (aa (ag listed (aa (ab 0) af)) af)) af))
theorem nJ {ls:Fn}{d:D}{E:Es}{g:G}(hv:fV E)(nd:(E.map ky).Nodup)(ct:Ct E)(hl:E.length<64)(h:ls [d] g=some (.lst (E.map ent),g)):∃x,Told E x/\av false 1 1 (Aj ls) [d] g=some (x,g):=by
 obtain⟨fs,e1,pm,pw⟩:=z9 hv nd ct
 refine⟨_,⟨fs,rfl,pm,pw⟩,?_⟩
 have so:=iV nd ct hl
 refine cR (σ':=[some d]) rfl ?_ rfl
 have hz:aC (fs.map ent).length=true:=aY (by simp;have:=pm.length_eq;omega)
 have es:dW [.lst (E.map ent)] g=some (.lst (fs.map ent),g):=by
  show kj [.lst (E.map ent)] g=_
  simp only[kj,eJ,Option.bind_some,so,if_true,e1]
 generalize E.map ent=A at *
 generalize fs.map ent=B at *
 simp[Aj,h,es,hz]
theorem Ak {n p:Nat}{T1 T2:D}{g:G}:av false 2 2 fB [.tup [.str "tables",.int n,.int p,T1,T2],.str "boxes"] g=some (.int p,g):=cR (σ':=[some _,some (.str "boxes")]) rfl rfl rfl
theorem xu {hd sh ow sk sg:Fn}(hg:gZ sg){n p:Nat}{T1 T2:D}{g:G}(hp:p<=5):av false 3 1 (c8 (av false 2 2 fB) hd sh ow sk sg) [.tup [.str "tables",.int n,.int p,T1,T2]] g=some (.lst ((aB "box" p (.int 0)).map ent),g):=by
 have e1:=Ak (n:=n) (p:=p) (T1:=T1) (T2:=T2) (g:=g)
 have e2:=hg "box" p (.int 0) g (by omega)
 have key:wp (av false 3 1 (c8 (av false 2 2 fB) hd sh ow sk sg) [.tup [.str "tables",.int n,.int p,T1,T2]] g) λq=>q=(.lst ((aB "box" p (.int 0)).map ent),g):=by
  refine wp_run rfl ?_
  simp[c8,du,e1,e2]
 obtain⟨q,e,rfl⟩:=key
 exact e
theorem J7 {p:Nat}(hp:p<=5):fV (aB "box" p (.int 0))/\((aB "box" p (.int 0)).map ky).Nodup/\Ct (aB "box" p (.int 0))/\(aB "box" p (.int 0)).length<64 :=
 ⟨g_ (by simp) hp,tY p _ hp,g0 ⟨rfl,by simp[dep]⟩,by rw[bO];omega⟩
end Bx
namespace Wd
open PySem L3 L2 RI
open Pd
noncomputable def nB (take pick:Fn):FS:=aH (ag pick (aa (ab 0) (aa (aA cH (aa (fC (.int 1)) (aa (fC (.int 2)) (aa (fC (.int 2)) (aa (fC (.int 3)) (aa (fC (.int 3)) (aa (fC (.int 2)) (aa (fC (.int 3)) (aa (ai aO (fC (.int 4)) (ag take (aa (ab 0) (aa (fC (.int 2)) af)))) af))))))))) af)))
noncomputable def own (nm:Str)(j:Nat):D:=.tup [.str nm,.int j]
def gB (f:Fn):Prop:=∀n g B,B+2<2 ^ 40->Hd g n B->∃(k:Nat) (g':G),f [.ref n] g=some (.int k,g')/\1<=k/\k<=5/\Hd g' n (B+2)/\Fr n g g'
end Wd
namespace Dw
open PySem L3 L2 Pd RI Bx
noncomputable def fD (take pick:Fn):FS:=aj (a_ (ay (ai oLt (ab 2) (fC (.int 2)))) (aH (ai aD (aA cH (aa (aA aq (aa (fC (.str "once")) (aa (ab 1) af))) (aa (aA aq (aa (fC (.str "twice")) (aa (ab 1) (aa (ab 3) af)))) af))) (ab 2))) aF) (aj (a_ (ay (ai oEq (ab 2) (fC (.int 2)))) (aH (aA aq (aa (fC (.str "handed")) (aa (ab 1) (aa (ab 3) (aa (ab 4) af)))))) aF) (aj (a_ (ay (ai oEq (ab 2) (fC (.int 3)))) (aH (ai aO (ai aO (aA aq (aa (fC (.str "signs")) (aa (ab 1) af))) (ab 5)) (aA aq (aa (ab 4) af)))) aF) (aH (ai aO (ai aO (aA aq (aa (fC (.str "shared")) (aa (ab 1) (aa (ai aO (fC (.int 1)) (ag take (aa (ab 0) (aa (fC (.int 4)) af)))) af)))) (ab 5)) (aA aq (aa (ab 4) af))))))
theorem wp_seq {f1 f2:FS}{σ:Sg}{g:G}{Q:F×Sg×G->Prop}(h:wp (f1 σ g) λr=>r.1 = .nx/\wp (f2 r.2.1 r.2.2) Q):wp (aj f1 f2 σ g) Q:=by
 obtain⟨⟨r,σ1,g1⟩,e,h1,h2⟩:=h
 dsimp only at h1 h2
 subst h1
 rw[kG,e]
 exact h2
theorem z6:aC 6=true:=rfl
theorem z5:aC 5=true:=rfl
def SE (d:D)(h:Nat):Prop:=∃p w c r,Mn d h p w c r/\(w = "box"->1<=p)
def t6 (f:Fn):Prop:=∀(n h:Nat) (g:G) (B:Int),h<=5->B<2 ^ 39->Hd g n B->wp (f [.ref n,.int h] g) λq=>SE q.1 h/\Hd q.2 n (B+6)/\Fr n g q.2
theorem Mn.two {d n p w c r}(M:Mn d n p w c r):∃wd xs,d = .tup (.str wd :: .int n::xs)/\(wd = "shared"->w = "box" /\ ∃ys,xs = .int p::ys)/\(wd ≠ "shared"->w = "own"):=by
 cases M with
 |once n h1=>exact⟨_,_,rfl,λz=>absurd z (by decide),λ_=>rfl⟩
 |twice n t h1=>exact⟨_,_,rfl,λz=>absurd z (by decide),λ_=>rfl⟩
 |handed n t m h1=>exact⟨_,_,rfl,λz=>absurd z (by decide),λ_=>rfl⟩
 |signs n a b m h1=>exact⟨_,_,rfl,λz=>absurd z (by decide),λ_=>rfl⟩
 |shared n p a b m h1 h2=>exact⟨_,_,rfl,λz=>⟨rfl,_,rfl⟩,λz=>absurd rfl z⟩
theorem J8 {a b:D}{r:List D}:bW (a::b::r) 1=some b:=tF (n:=1) rfl
end Dw
namespace Dv
open PySem L3 L2 Pd RI Bx Dw
noncomputable def MZ (take pick:Fn):FS:=aj (ax (aA aq (aa (ag take (aa (ab 0) (aa (fC (.int 2)) af))) (aa (ag take (aa (ab 0) (aa (fC (.int 2)) af))) af))) (gN 5)) (fD take pick)
noncomputable def M0 (take pick:Fn):FS:=aj (ax (ai aO (fC (.int 1)) (ag take (aa (ab 0) (aa (fC (.int 4)) af)))) (gN 4)) (MZ take pick)
noncomputable def M1 (take pick:Fn):FS:=aj (ax (ag pick (aa (ab 0) (aa (aA cH (aa (fC (.int 0)) (aa (fC (.int 0)) (aa (fC (.int 2)) (aa (fC (.int 3)) (aa (fC (.int 7)) (aa (fC (.int 9)) af))))))) af))) (gN 3)) (M0 take pick)
noncomputable def mB (take pick:Fn):FS:=aj (ax (ag take (aa (ab 0) (aa (fC (.int 6)) af))) (gN 2)) (M1 take pick)
theorem Al {take pick:Fn}(ht:cw take)(hp:kA pick):t6 (av false 6 2 (mB take pick)):=λn h g B h5 hB hd=>by
 refine wp_run rfl ?_
 unfold mB
 refine wp_seq ?_
 simp
 refine ht.w (by omega) (by decide) (by decide) hd λw g1 w0 w1 dX f1=>?_
 simp
 unfold M1
 refine wp_seq ?_
 simp[z6]
 refine hp.w (by omega) (by simp) (by simp) dX λd g2 m2 hd2 f2=>?_
 obtain⟨t,rfl⟩:∃t:Int,d = .int t:=by
   simp only[List.mem_cons,List.not_mem_nil,or_false]at m2
   rcases m2 with rfl|rfl|rfl|rfl|rfl|rfl<;>exact⟨_,rfl⟩
 simp
 unfold M0
 refine wp_seq ?_
 simp
 refine ht.w (by omega) (by decide) (by decide) hd2 λm0 g3 _ _ fX f3=>?_
 simp
 generalize (1:Int)+m0=m
 unfold MZ
 refine wp_seq ?_
 simp
 refine ht.w (by omega) (by decide) (by decide) fX λa g4 _ _ Am f4=>?_
 simp
 refine ht.w (by omega) (by decide) (by decide) Am λb g5 _ _ M3 f5=>?_
 simp[z2]
 have ff:=f1.trans (f2.trans (f3.trans (f4.trans f5)))
 have xw:=M3.mono (B':=B+6) (by omega)
 have hw:w=0\/w=1\/w=2\/w=3\/4<=w:=by omega
 rcases hw with rfl|rfl|rfl|rfl|hw
 . have e:bW [D.tup [.str "once",.int h],.tup [.str "twice",.int h,.int t]] 0=some (.tup [.str "once",.int h]):=rfl
   simp[fD,z2,z3,e]
   exact⟨ff.1,⟨h,_,_,_,.once h h5,λz=>absurd z (by decide)⟩,xw,ff⟩
 . have e:bW [D.tup [.str "once",.int h],.tup [.str "twice",.int h,.int t]] 1=some (.tup [.str "twice",.int h,.int t]):=rfl
   simp[fD,z2,z3,e]
   exact⟨ff.1,⟨h,_,_,_,.twice h t h5,λz=>absurd z (by decide)⟩,xw,ff⟩
 . simp[fD,z4]
   exact⟨ff.1,⟨h,_,_,_,.handed h t m h5,λz=>absurd z (by decide)⟩,xw,ff⟩
 . simp[fD,z1,z2,z4,z5]
   exact⟨ff.1,⟨h,_,_,_,.signs h a b m h5,λz=>absurd z (by decide)⟩,xw,ff⟩
 . have n1:¬w<2:=by omega
   have n2:¬w=2:=by omega
   have n3:¬w=3:=by omega
   simp[fD,n1,n2,n3]
   refine ht.w (by omega) (by decide) (by decide) M3 λr g6 r0 r1 pH f6=>?_
   have ff:=ff.trans f6
   obtain⟨k,rfl⟩:∃k:Nat,r=k:=⟨r.toNat,by omega⟩
   have e:(1:Int)+k=((1+k:Nat):Int):=by omega
   simp[z1,z3,z5,z6]
   rw[e]
   exact⟨ff.1,⟨1+k,_,_,_,.shared h (1+k) a b m h5 (by omega),λ_=>by omega⟩,pH.mono (by omega),ff⟩
noncomputable def tR (take:Fn):FE:=aA aq (aa (fC (.str "read")) (aa (ab 7) (aa (ag cD (aa (bp bA (eX (ab 9)) [none,none,some 0,some 4] (gN 1) bw (aA aq (aa (ab 1) (aa (ag take (aa (ab 2) (aa (ab 3) af))) af)))) af)) (aa (ab 8) af))))
noncomputable def tS (take:Fn):FE:=tu (bp bA (bP (aa (ag take (aa (ab 0) (aa (fC (.int 4)) af))) af)) [none,none,some 0] (gN 1) bw (ag take (aa (ab 2) (aa (fC (.int 10)) af))))
noncomputable def tE (take:Fn):FE:=ai aD (aA cH (aa (aA aq (aa (fC (.str "end")) af)) (aa (aA aq (aa (fC (.str "told")) (aa (ag cD (aa (bp bA (bP (aa (ab 2) af)) [none,none,some 0] (gN 1) bw (ag take (aa (ab 2) (aa (fC (.int 2)) af)))) af)) af))) af))) (ag dY (aa (ab 3) af))
noncomputable def tW (take:Fn):FE:=aA aq (aa (fC (.str "write")) (aa (ab 7) (aa (ag take (aa (ab 0) (aa (fC (.int 10)) af))) (aa (ab 8) af))))
noncomputable def pI (e:FE):FS:=cL (dn isRef eh (ab 5) (aa e af))
noncomputable def tI (take:Fn):FS:=a_ (cU (ay (ai rQ (ab 6) (fC (.int 0)))) (ay (ai oEq (ag take (aa (ab 0) (aa (fC (.int 3)) af))) (fC (.int 0))))) (pI (tE take)) (a_ (ay (ai oEq (ag take (aa (ab 0) (aa (fC (.int 2)) af))) (fC (.int 0)))) (aj (ax (tS take) (gN 9)) (pI (tR take))) (pI (tW take)))
noncomputable def tL (take:Fn):FS:=aj (rW 7 8 (aa (ag take (aa (ab 0) (aa (ab 1) af))) (aa (ag take (aa (ab 0) (aa (ab 4) af))) af))) (tI take)
noncomputable def tM (take:Fn):FE:=ai aD (aA cH (aa (fC (.int 2)) (aa (fC (.int 3)) (aa (fC (.int 4)) (aa (fC (.int 5)) (aa (fC (.int 6)) (aa (fC (.int 8)) (aa (fC (.int 1)) (aa (fC (.int 40)) af))))))))) (ag take (aa (ab 0) (aa (fC (.int 8)) af)))
noncomputable def tB (take:Fn):FS:=aj (ax (tM take) (gN 4)) (aj (ax (aA mkRef af) (gN 5)) (aj (cK (bP (aa (ab 4) af)) (gN 6) (tL take)) (aH (ag cD (aa (ab 5) af)))))
noncomputable def An (table:Fn)(b:Bool):FE:=ag cD (aa (bp bA (bP (aa (ab 1) af)) [none,none,some 2,some 0,some 1] (gN 1) bw (ag table (aa (ab 3) (aa (ab 2) (aa (ab 4) (aa (fC (.bl b)) af)))))) af)
noncomputable def M4 (take table:Fn):FS:=aj (ax (ai aO (fC (.int 1)) (ag take (aa (ab 0) (aa (fC (.int 4)) af)))) (gN 2)) (aj (ax (An table false) (gN 3)) (aH (aA aq (aa (fC (.str "tables")) (aa (ab 1) (aa (ab 2) (aa (ab 3) (aa (An table true) af))))))))
theorem vK {take:Fn}(ht:cw take){cnt:FE}{σ:Sg}{h:Nat}{m:Int}{g:G}{B:Int}(h0:σ[0]? = some (some (.ref h)))(hB:B<2 ^ 39)(m1:0<m)(m2:m<1000)(hc:wp (cnt σ g) λr=>∃k:Nat,r.1 = .int k/\k<=5/\Hd r.2 h (B+1)/\Fr h g r.2){Q:D×G->Prop}(q:∀(ns:List Int) g',ns.length<=5->Hd g' h (B+6)->Fr h g g'->Q (.lst (ns.map .int),g')):wp (bp bA (bP (aa cnt af)) [none,none,some 0] (gN 1) bw (ag take (aa (ab 2) (aa (fC (.int m)) af))) σ g) Q:=by
 obtain⟨⟨x,g1⟩,e1,k,rfl,hk,dX,f1⟩:=hc
 dsimp only at dX f1
 simp
 refine dg ?_
 have zk:aC k=true:=aY (by omega)
 simp[e1,bH,zk,h0]
 refine⟨by omega,?_⟩
 refine eZ (λi acc σ' gg=>(∃o1,σ' = [none,o1,some (.ref h)])/\i<=k/\(∃ns:List Int,acc=ns.map .int/\ns.length=i)/\Hd gg h (B+1+i)/\Fr h g gg) _ 0 _ _ [] ⟨⟨none,rfl⟩,by omega,⟨[],rfl,rfl⟩,dX.mono (by omega),f1⟩ ?_ ?_
 . rintro i x acc σ' gg hi ⟨⟨o1,rfl⟩,jQ,⟨ns,rfl,nl⟩,hd2,f2⟩
   obtain⟨jQ,rfl⟩:=cx hi
   rw[Nat.zero_add]at nl hd2 ⊢
   simp
   refine ht.w (by omega) m1 (by omega) hd2 λv g3 v0 v1 fX f3=>?_
   refine⟨by omega,⟨ns ++ [v],by simp,by simp[nl]⟩,fX.mono (by omega),f2.trans f3⟩
 . rintro ah σ' gg ⟨_,jQ,⟨ns,rfl,nl⟩,hd2,f2⟩
   simp only[Nat.zero_add,bH]at nl hd2 jQ
   exact q ns gg (by omega) (hd2.mono (by omega)) f2
def Ao (h:Nat)(g:G)(B:Int)(r:D×G):Prop:=flat r.1=true/\Hd r.2 h B/\Fr h g r.2
noncomputable abbrev dF (h bx n:Nat)(b:Bool)(many:Int)(p:Nat)(o6 o7 o8 o9:Option D):Sg:=[some (.ref h),some (.int bx),some (.int n),some (.bl b),some (.int many),some (.ref p),o6,o7,o8,o9]
theorem Pc {take:Fn}(ht:cw take){h bx n p:Nat}{b:Bool}{many:Int}{o6 o7 o8 o9:Option D}{g:G}{B:Int}(hn:n<=5)(hB:B<2 ^ 39)(hd:Hd g h B):wp (tE take (dF h bx n b many p o6 o7 o8 o9) g) (Ao h g (B+6)):=by
 have key:=vK ht (cnt:=ab 2) (σ:=dF h bx n b many p o6 o7 o8 o9) (h:=h) (m:=2) (g:=g) (B:=B) rfl hB (by decide) (by decide) ⟨_,rfl,n,rfl,hn,hd.mono (by omega),Fr.refl⟩ (Q:=λr=>∃ns:List Int,r.1 = .lst (ns.map .int)/\ns.length<=5/\Hd r.2 h (B+6)/\Fr h g r.2) λns g' h1 h2 h3=>⟨ns,rfl,h1,h2,h3⟩
 obtain⟨⟨x,g1⟩,e,ns,hx,h1,h2,h3⟩:=key
 dsimp only at hx h2 h3
 subst hx
 have zn:aC (ns.map D.int).length=true:=aY (by simp;omega)
 have fl:=jD ns
 unfold tE
 generalize hC:bp bA (bP (aa (ab 2) af)) [none,none,some 0] (gN 1) bw (ag take (aa (ab 2) (aa (fC (.int 2)) af)))=C at *
 generalize hA:ns.map D.int=A at *
 cases b
 . have ea:bW [D.tup [.str "end"],.tup [.str "told",.tup A]] 0=some (.tup [.str "end"]):=rfl
   simp[e,zn,z1,z2,ea,dY]
   exact⟨rfl,h2,h3⟩
 . have ea:bW [D.tup [.str "end"],.tup [.str "told",.tup A]] 1=some (.tup [.str "told",.tup A]):=rfl
   simp[e,zn,z1,z2,ea,dY]
   exact⟨by simp[flat,az,fl],h2,h3⟩
theorem Pe {take:Fn}(ht:cw take){h bx n p:Nat}{b:Bool}{many:Int}{o6 o9:Option D}{i7 i8:Int}{g:G}{B:Int}(hB:B<2 ^ 39)(hd:Hd g h B):wp (tW take (dF h bx n b many p o6 (some (.int i7)) (some (.int i8)) o9) g) (Ao h g (B+6)):=by
 unfold tW
 simp
 refine ht.w (by omega) (by decide) (by decide) hd λy g1 y0 y1 dX f1=>?_
 simp[z4]
 exact⟨rfl,dX.mono (by omega),f1⟩
theorem Pf {take:Fn}(ht:cw take){h bx n p:Nat}{b:Bool}{many:Int}{o6 o7 o8 o9:Option D}{g:G}{B:Int}(hB:B<2 ^ 39)(hd:Hd g h B):wp (tS take (dF h bx n b many p o6 o7 o8 o9) g) λr=>∃ns:List Int,r.1 = .lst (ns.map .int)/\ns.length<=5/\Hd r.2 h (B+6)/\Fr h g r.2:=by
 have key:=vK ht (cnt:=ag take (aa (ab 0) (aa (fC (.int 4)) af))) (σ:=dF h bx n b many p o6 o7 o8 o9) (h:=h) (m:=10) (g:=g) (B:=B) rfl hB (by decide) (by decide) (by
   simp
   refine ht.w (by omega) (by decide) (by decide) hd λy g1 y0 y1 dX f1=>?_
   exact⟨y.toNat,by simp;omega,by omega,dX,f1⟩) (Q:=λr=>∃ns:List Int,r.1 = .lst (ns.map .int)/\ns.length<=5/\Hd r.2 h (B+6)/\Fr h g r.2) λns g' h1 h2 h3=>⟨ns,rfl,h1,h2,h3⟩
 obtain⟨⟨x,g1⟩,e,ns,hx,h1,h2,h3⟩:=key
 dsimp only at hx h2 h3
 subst hx
 unfold tS
 have l18:ns.length<=18:=by omega
 refine⟨(.lst ((PySem.W.sortI (SJ.df (λi=>ns.getD i 0) ns.length)).map .int),g1),?_,_,rfl,?_,h2,h3⟩
 . rw[Fh,e]
   simp only[Option.bind_some,eJ,ints_map,decide_eq_true l18,if_true]
 . have:=SJ.ik (λi=>ns.getD i 0) ns.length
   rw[(PySem.W.sortI_perm _).length_eq]
   omega
theorem Pg {take:Fn}(ht:cw take){h bx n p:Nat}{b:Bool}{many:Int}{o6:Option D}{i7 i8:Int}{ns:List Int}{g:G}{B:Int}(hB:B<2 ^ 39)(m1:0<many)(m2:many<1000)(hl:ns.length<=5)(hd:Hd g h B):wp (tR take (dF h bx n b many p o6 (some (.int i7)) (some (.int i8)) (some (.lst (ns.map .int)))) g) (Ao h g (B+6)):=by
 unfold tR
 simp[eX]
 have zk:aC ns.length=true:=aY (by omega)
 simp[zk]
 refine eZ (λi acc σ' gg=>(∃o1,σ' = [none,o1,some (.ref h),some (.int many)])/\i<=ns.length/\acc.length=i/\az acc=true/\Hd gg h (B+i)/\Fr h g gg) _ 0 _ _ [] ⟨⟨none,rfl⟩,by omega,rfl,rfl,hd.mono (by omega),Fr.refl⟩ ?_ ?_
 . rintro i x acc σ' gg hi ⟨⟨o1,rfl⟩,jQ,al,fa,hd2,f2⟩
   rw[Nat.zero_add]at jQ al hd2 ⊢
   have aU:=(List.getElem?_eq_some_iff.mp hi).1
   rw[List.length_map]at aU
   obtain⟨v0,_,rfl⟩:∃v,v∈ns/\D.int v=x:=List.mem_map.mp (List.mem_iff_getElem?.mpr ⟨_,hi⟩)
   simp
   refine ht.w (by omega) m1 (by omega) hd2 λv g3 w0 w1 fX f3=>?_
   simp[z2]
   refine⟨by omega,al,?_,fX.mono (by omega),f2.trans f3⟩
   exact fA λx hx=>by
    rcases List.mem_append.mp hx with hx|hx
    . exact kB fa _ hx
    . simp at hx;subst hx;rfl
 . rintro ah σ' gg ⟨_,jQ,al,fa,hd2,f2⟩
   simp only[Nat.zero_add,List.length_map,List.nil_append]at al hd2 jQ fa
   have zi:aC ah.length=true:=aY (by omega)
   simp[zi,z4]
   exact⟨by simp[flat,az,fa],hd2.mono (by omega),f2⟩
theorem pJ {xs:List D}{x:D}(h:az xs=true)(hx:flat x=true):az (xs ++ [x])=true:=fA λy hy=>by
 rcases List.mem_append.mp hy with hy|hy
 . exact kB h _ hy
 . simp at hy;subst hy;exact hx
theorem Ph {e:FE}{σ:Sg}{gg g1:G}{h:Nat}{B B':Int}{rows:List D}(h5:σ[5]? = some (some (.ref g1.length)))(K:Mk g1 gg h B rows)(rl:rows.length<=100)(fr:az rows=true)(he:wp (e σ gg) (Ao h gg B')):wp (pI e σ gg) λr=>r.1 = .nx/\r.2.1=σ /\ ∃cf:List D,cf.length=rows.length+1/\az cf=true/\Mk g1 r.2.2 h B' cf:=by
 obtain⟨⟨x,g2⟩,e1,fx,hd,f⟩:=he
 dsimp only at fx hd f
 have K2:=K.step hd f
 have zx:aC (rows.length+1)=true:=aY (by omega)
 unfold pI
 simp[h5,e1,K2.at_,zx]
 exact⟨rows ++ [x],by simp,pJ fr fx,K2.put⟩
theorem Pj {take:Fn}(ht:cw take){h bx n j:Nat}{b:Bool}{many:Int}{o7 o8 o9:Option D}{gg g1:G}{B:Int}{rows:List D}(b1:1<=bx)(b5:bx<=5)(hn:n<=5)(m1:0<many)(m2:many<1000)(hB:B<2 ^ 38)(K:Mk g1 gg h B rows)(rl:rows.length<=100)(fr:az rows=true):
   wp (tL take (dF h bx n b many g1.length (some (.int j)) o7 o8 o9) gg) λr=>r.1 = .nx/\(∃p6 p7 p8 p9,r.2.1=dF h bx n b many g1.length p6 p7 p8 p9) /\ ∃cf:List D,cf.length=rows.length+1/\az cf=true/\Mk g1 r.2.2 h (B+20) cf:=by
 unfold tL
 refine wp_seq ?_
 simp
 refine ht.w (by omega) (by omega) (by omega) K.hd λi7 g2 _ _ hd2 f2=>?_
 simp
 refine ht.w (by omega) m1 (by omega) hd2 λi8 g3 _ _ fX f3=>?_
 have K3:=K.step fX (f2.trans f3)
 have fin:∀{e:FE} {p9:Option D} {g5:G} {B5:Int},Mk g1 g5 h B5 rows->B5+6<=B+20->wp (e (dF h bx n b many g1.length (some (.int j)) (some (.int i7)) (some (.int i8)) p9) g5) (Ao h g5 (B5+6))->wp (pI e (dF h bx n b many g1.length (some (.int j)) (some (.int i7)) (some (.int i8)) p9) g5) λr=>r.1 = .nx/\(∃p6 p7 p8 p9,r.2.1=dF h bx n b many g1.length p6 p7 p8 p9) /\ ∃cf:List D,cf.length=rows.length+1/\az cf=true/\Mk g1 r.2.2 h (B+20) cf:=fun {e p9 g5 B5} K5 hb he=>by
   obtain⟨r,er,q1,q2,cf,l1,l2,l3⟩:=Ph (σ:=dF h bx n b many g1.length (some (.int j)) (some (.int i7)) (some (.int i8)) p9) (g1:=g1) rfl K5 rl fr he
   exact⟨r,er,q1,⟨_,_,_,_,q2⟩,cf,l1,l2,l3.mono hb⟩
 have alt:∀{g5:G} {B5:Int},Mk g1 g5 h B5 rows->B5<=B+3->wp (a_ (ay (ai oEq (ag take (aa (ab 0) (aa (fC (.int 2)) af))) (fC (.int 0)))) (aj (ax (tS take) (gN 9)) (pI (tR take))) (pI (tW take)) (dF h bx n b many g1.length (some (.int j)) (some (.int i7)) (some (.int i8)) o9) g5) λr=>r.1 = .nx/\(∃p6 p7 p8 p9,r.2.1=dF h bx n b many g1.length p6 p7 p8 p9) /\ ∃cf:List D,cf.length=rows.length+1/\az cf=true/\Mk g1 r.2.2 h (B+20) cf:=fun {g5 B5} K5 hb=>by
   obtain⟨y,g6,e6,y0,y1,pH,f6⟩:=ht h 2 g5 B5 (by omega) (by decide) (by decide) K5.hd
   have K6:=K5.step pH f6
   by_cases hy:y=0
   . have et:ay (ai oEq (ag take (aa (ab 0) (aa (fC (.int 2)) af))) (fC (.int 0))) (dF h bx n b many g1.length (some (.int j)) (some (.int i7)) (some (.int i8)) o9) g5=some (true,g6):=by simp[e6,hy]
     obtain⟨⟨x,g7⟩,e7,ns,hx,l5,J9,f7⟩:=Pf ht (bx:=bx) (n:=n) (p:=g1.length) (b:=b) (many:=many) (o6:=some (.int j)) (o7:=some (.int i7)) (o8:=some (.int i8)) (o9:=o9) (by omega) pH
     dsimp only at hx J9 f7
     subst hx
     have K7:=K6.step J9 f7
     have ea:ax (tS take) (gN 9) (dF h bx n b many g1.length (some (.int j)) (some (.int i7)) (some (.int i8)) o9) g6=some (.nx,dF h bx n b many g1.length (some (.int j)) (some (.int i7)) (some (.int i8)) (some (.lst (ns.map .int))),g7):=by simp[e7]
     rw[iR,et]
     simp only[Option.bind_some,if_true]
     rw[aK ea]
     exact fin K7 (by omega) (Pg ht (by omega) m1 m2 l5 J9)
   . have et:ay (ai oEq (ag take (aa (ab 0) (aa (fC (.int 2)) af))) (fC (.int 0))) (dF h bx n b many g1.length (some (.int j)) (some (.int i7)) (some (.int i8)) o9) g5=some (false,g6):=by simp[e6,hy]
     rw[iR,et]
     simp only[Option.bind_some,Bool.false_eq_true,if_false]
     exact fin K6 (by omega) (Pe ht (by omega) pH)
 have cc:ay (ai rQ (ab 6) (fC (.int 0))) (dF h bx n b many g1.length (some (.int j)) (some (.int i7)) (some (.int i8)) o9) g3=some (decide (0<j),g3):=by simp
 simp
 show wp (tI take (dF h bx n b many g1.length (some (.int j)) (some (.int i7)) (some (.int i8)) o9) g3) _
 unfold tI
 rw[iR,EC,cc]
 by_cases hj:0<j
 . obtain⟨y,g6,e6,y0,y1,pH,f6⟩:=ht h 3 g3 _ (by omega) (by decide) (by decide) K3.hd
   have K6:=K3.step pH f6
   have et:ay (ai oEq (ag take (aa (ab 0) (aa (fC (.int 3)) af))) (fC (.int 0))) (dF h bx n b many g1.length (some (.int j)) (some (.int i7)) (some (.int i8)) o9) g3=some (decide (y=0),g6):=by simp[e6];rfl
   by_cases hy:y=0
   . simp only[hj,decide_true,Option.bind_some,if_true,et,hy]
     exact fin K6 (by omega) (Pc ht hn (by omega) pH)
   . simp only[hj,decide_true,Option.bind_some,if_true,et,hy,decide_false,Bool.false_eq_true,if_false]
     exact alt K6 (by omega)
 . simp only[hj,decide_false,Option.bind_some,Bool.false_eq_true,if_false]
   exact alt K3 (by omega)
theorem z8:aC 8=true:=rfl
theorem Pl {take:Fn}(ht:cw take){σ:Sg}{h:Nat}{g:G}{B:Int}(h0:σ[0]? = some (some (.ref h)))(hB:B<2 ^ 39)(hd:Hd g h B):∃(k:Nat) (g1:G),tM take σ g=some (.int k,g1)/\0<k/\k<=40/\Hd g1 h (B+1)/\Fr h g g1:=by
 obtain⟨y,g1,e,y0,y1,dX,f1⟩:=ht h 8 g B (by omega) (by decide) (by decide) hd
 have hx:∃k:Nat,0<k/\k<=40/\bW [D.int 2,.int 3,.int 4,.int 5,.int 6,.int 8,.int 1,.int 40] y=some (.int k):=by
  have:y=0\/y=1\/y=2\/y=3\/y=4\/y=5\/y=6\/y=7:=by omega
  rcases this with rfl|rfl|rfl|rfl|rfl|rfl|rfl|rfl
  . exact⟨2,by decide,by decide,rfl⟩
  . exact⟨3,by decide,by decide,rfl⟩
  . exact⟨4,by decide,by decide,rfl⟩
  . exact⟨5,by decide,by decide,rfl⟩
  . exact⟨6,by decide,by decide,rfl⟩
  . exact⟨8,by decide,by decide,rfl⟩
  . exact⟨1,by decide,by decide,rfl⟩
  . exact⟨40,by decide,by decide,rfl⟩
 obtain⟨k,k0,k1,ek⟩:=hx
 exact⟨k,g1,by simp[tM,h0,e,ek,z8],k0,k1,dX,f1⟩
def lh (f:Fn):Prop:=∀(h bx n:Nat) (b:Bool) (g:G) (B:Int),1<=bx->bx<=5->n<=5->B<2 ^ 37->Hd g h B->Clean g ->
 wp (f [.ref h,.int bx,.int n,.bl b] g) λq=>∃rows:List D,q.1 = .tup rows/\az rows=true/\Hd q.2 h (B+1000)/\Fr h g q.2
theorem BU {take:Fn}(ht:cw take):lh (av false 10 4 (tB take)):=λh bx n b g B b1 b5 hn hB hd cg=>by
 refine n0 rfl ?_
 unfold tB
 obtain⟨k,g1,e1,k0,k1,dX,f1⟩:=Pl ht (σ:=[some (.ref h),some (.int bx),some (.int n),some (.bl b),none,none,none,none,none,none]) rfl (by omega) hd
 have c1:=cg.fr f1 dX
 refine wp_seq ?_
 simp[e1]
 refine dg ?_
 simp
 refine⟨by omega,?_⟩
 refine c7 (λj σ g'=>(∃o6 o7 o8 o9,σ=dF h bx n b k g1.length o6 o7 o8 o9) /\ ∃rows:List D,rows.length=j/\az rows=true/\Mk g1 g' h (B+1+20*j) rows) _ 0 _ _ ⟨⟨none,none,none,none,rfl⟩,[],rfl,rfl,(Mk.init dX).mono (by omega)⟩ ?_ ?_
 . rintro j x σ g' hj ⟨⟨o6,o7,o8,o9,rfl⟩,rows,rl,rf,K⟩
   obtain⟨TB,rfl⟩:=cx hj
   rw[Nat.zero_add]at rl K ⊢
   simp
   obtain⟨r,er,q1,q2,cf,l1,l2,l3⟩:=Pj ht (h:=h) (bx:=bx) (n:=n) (j:=j) (b:=b) (many:=k) (o7:=o7) (o8:=o8) (o9:=o9) (gg:=g') (g1:=g1) b1 b5 hn (by omega) (by omega) (by omega) K (by omega) rf
   refine⟨r,er,?_⟩
   obtain⟨r1,r2,r3⟩:=r
   dsimp only at q1 q2 l3
   subst q1
   simp
   exact⟨q2,cf,by omega,l2,l3.mono (by omega)⟩
 . rintro σ g' ⟨⟨o6,o7,o8,o9,rfl⟩,rows,rl,rf,K⟩
   simp only[Nat.zero_add,bH]at rl K
   have rl:rows.length=k:=by simpa using rl
   obtain⟨m1,m2⟩:=K.fin
   have gl:g1.length=g.length:=f1.1
   simp[K.at_,aY (show rows.length<=1000 by omega)]
   rw[gl]at m1 m2
   have ff:=f1.trans m2
   exact⟨by simp[dC,cT _ rf],λx hx=>(cg.fr ff m1) x hx _,by rw[K.len];omega,rf,m1.mono (by omega),ff⟩
def cF (d:D):Prop:=∃(n bx:Nat) (T1 T2:D),d = .tup [.str "tables",.int n,.int bx,T1,T2]/\n<=5/\1<=bx/\bx<=5/\flat d=true
theorem Dq {table:Fn}(ht:lh table){h bx n:Nat}{b c:Bool}{o3:Option D}{g:G}{B:Int}(b1:1<=bx)(b5:bx<=5)(hn:n<=5)(hB:B<2 ^ 36)(hd:Hd g h B)(cg:Clean g):∃(T:List D) (g1:G),An table c [some (.ref h),some (.int n),some (.int bx),o3] g=some (.tup T,g1)/\az T=true/\Hd g1 h (B+5000)/\Fr h g g1:=by
 have key:wp (An table c [some (.ref h),some (.int n),some (.int bx),o3] g) λq=>∃T:List D,q.1 = .tup T/\az T=true/\Hd q.2 h (B+5000)/\Fr h g q.2:=by
  unfold An
  simp
  refine dg ?_
  have zk:aC n=true:=aY (by omega)
  simp[bH,zk]
  refine⟨by omega,?_⟩
  refine eZ (λi acc σ' gg=>(∃o1,σ' = [none,o1,some (.int bx),some (.ref h),some (.int n)])/\i<=n/\acc.length=i/\az acc=true/\Hd gg h (B+1000*i)/\Fr h g gg) _ 0 _ _ [] ⟨⟨none,rfl⟩,by omega,rfl,rfl,hd.mono (by omega),Fr.refl⟩ ?_ ?_
  . rintro i x acc σ' gg hi ⟨⟨o1,rfl⟩,jQ,al,fa,hd2,f2⟩
    obtain⟨jQ,rfl⟩:=cx hi
    rw[Nat.zero_add]at al hd2 ⊢
    simp
    obtain⟨⟨x,g3⟩,e3,rows,hx,fl,fX,f3⟩:=ht h bx n c gg _ b1 b5 hn (by omega) hd2 (cg.fr f2 hd2)
    dsimp only at hx fX f3
    subst hx
    refine⟨_,e3,by omega,al,?_,fX.mono (by omega),f2.trans f3⟩
    exact pJ fa (by simpa[flat]using fl)
  . rintro ah σ' gg ⟨_,jQ,al,fa,hd2,f2⟩
    simp only[Nat.zero_add,bH,List.nil_append]at al hd2 jQ fa
    have al:ah.length=n:=by simpa using al
    have zi:aC ah.length=true:=aY (by omega)
    simp[zi]
    exact⟨fa,hd2.mono (by simp;omega),f2⟩
 obtain⟨⟨x,g1⟩,e,T,hx,h1,h2,h3⟩:=key
 dsimp only at hx h2 h3
 subst hx
 exact⟨T,g1,e,h1,h2,h3⟩
def t7 (f:Fn):Prop:=∀(h n:Nat) (g:G) (B:Int),n<=5->B<2 ^ 35->Hd g h B->Clean g ->
 wp (f [.ref h,.int n] g) λq=>cF q.1/\Hd q.2 h (B+10001)/\Fr h g q.2
theorem Ap {take table:Fn}(ht:cw take)(hb:lh table):t7 (av false 4 2 (M4 take table)):=λh n g B hn hB hd cg=>by
 refine wp_run rfl ?_
 unfold M4
 refine wp_seq ?_
 simp
 refine ht.w (by omega) (by decide) (by decide) hd λy g1 y0 y1 dX f1=>?_
 obtain⟨k,hk⟩:∃k:Nat,1+y=k:=⟨(1+y).toNat,by omega⟩
 obtain⟨T1,g2,e2,t1,hd2,f2⟩:=Dq hb (b:=true) (c:=false) (o3:=none) (h:=h) (bx:=k) (n:=n) (g:=g1) (by omega) (by omega) hn (by omega) dX (cg.fr f1 dX)
 have M5:=f1.trans f2
 obtain⟨T2,g3,e3,t2,fX,f3⟩:=Dq hb (b:=true) (c:=true) (o3:=some (.tup T1)) (h:=h) (bx:=k) (n:=n) (g:=g2) (by omega) (by omega) hn (by omega) hd2 (cg.fr M5 hd2)
 have ff:=M5.trans f3
 simp
 rw[hk]
 simp[e2,e3,z5]
 exact⟨ff.1,⟨n,k,.tup T1,.tup T2,by simp,hn,by omega,by omega,by simp[flat,az,t1,t2]⟩,fX.mono (by omega),ff⟩
end Dv
namespace Bx
open PySem L3 L2 Pd RI
theorem Dr:∀w∈(["box","own","view","call","sign"]:List Str),(reprText w).length<=20:=by decide +kernel
theorem BV {i:Int}(h0:0<=i)(h1:i<=9):sm (.int i)=true:=by
 simp only[sm,decide_eq_true_eq]
 omega
theorem LF {k:Str×List Int}(h:Vk k):sm (kd k)=true/\nd (kd k)<=4:=by
 cases h with
 |one w i hw h0 h1 =>
  have hr:=Dr w (by simp at hw ⊢;rcases hw with h|h|h<;>simp[h])
  have:=BV h0 h1
  have hs:sm (.str w)=true:=by simp only[sm,decide_eq_true_eq];exact hr
  exact⟨by simp[kd,sm,iS]at *;exact⟨hs,this⟩,by simp[kd,nd,ig]⟩
 |two w i j hw h0 h1 h2 h3 =>
  have hr:=Dr w (by simp at hw ⊢;rcases hw with h|h<;>simp[h])
  have a1:=BV h0 h1
  have a2:=BV h2 h3
  have hs:sm (.str w)=true:=by simp only[sm,decide_eq_true_eq];exact hr
  exact⟨by simp[kd,sm,iS]at *;exact⟨hs,a1,a2⟩,by simp[kd,nd,ig]⟩
def Sc (E:Es):Prop:=∀e∈E,sm e.2.2=true/\nd e.2.2<=20
theorem hG {w:Str}{p:Nat}{c:D}(h:sm c=true/\nd c<=20):Sc (aB w p c):=λe he=>by
 obtain⟨j,hj,rfl⟩:=List.mem_map.mp he
 exact h
theorem ja {a b:Es}(h1:Sc a)(h2:Sc b):Sc (a++b):=λe he=>by
 rcases List.mem_append.mp he with he|he
 . exact h1 e he
 . exact h2 e he
theorem J_ {w:Str}{n:Nat}:Sc (bu w n):=λe he=>by
 obtain⟨i,j,hi,hj,_,rfl⟩:=oy (I:=n) he
 exact⟨rfl,by simp[nd]⟩
theorem Aq {b:Int}{ws:List Str}{n:Nat}:Sc (bK b ws n):=λe he=>by
 unfold bK at he
 split at he
 . obtain⟨w,hm,he⟩:=List.mem_flatMap.mp he
   exact J_ e he
 . cases he
theorem xx {n:Nat}(h:n<=5):sm (zs n)=true/\nd (zs n)<=6:=by
 have:n=0\/n=1\/n=2\/n=3\/n=4\/n=5:=by omega
 rcases this with rfl|rfl|rfl|rfl|rfl|rfl<;>exact⟨by decide,by decide⟩
theorem Mn.sc {d n p w c r}(M:Mn d n p w c r):Sc (aB w p c++r):=by
 cases M with
 |once n h1=>exact ja (hG ⟨by decide,by decide⟩) (λe he=>by cases he)
 |twice n t h1=>exact ja (hG ⟨by decide,by decide⟩) (λe he=>by cases he)
 |handed n t m h1=>have z:=xx h1;exact ja (hG ⟨by simp[sm,iS];exact z.1,by have:=z.2;simp[L3.nd,L3.ig];omega⟩) (λe he=>by cases he)
 |signs n a b m h1=>have z:=xx h1;exact ja (hG ⟨by simp[sm,iS];exact z.1,by have:=z.2;simp[L3.nd,L3.ig];omega⟩) Aq
 |shared n p a b m h1 h2=>have z:=xx h2;exact ja (hG ⟨by decide,by decide⟩) (ja (hG ⟨z.1,by have:=z.2;omega⟩) Aq)
theorem Ka {e:Str×List Int×D}(hk:Vk (ky e))(hc:sm e.2.2=true/\nd e.2.2<=20):sm (ent e)=true/\nd (ent e)<=30:=by
 obtain⟨k1,k2⟩:=LF hk
 obtain⟨c1,c2⟩:=hc
 refine⟨?_,?_⟩
 . simp only[ent,sm,iS,Bool.and_eq_true]
   exact⟨k1,c1,trivial⟩
 . simp only[ent,nd,ig]
   have:nd (kd (e.1,e.2.1))<=4:=k2
   omega
theorem Ar:∀gs:Es,(∀e∈gs,sm (ent e)=true/\nd (ent e)<=30)->iS (gs.map ent)=true/\ig (gs.map ent)<=30*gs.length/\PyData.depthAll (b3 (gs.map ent))<=30
 | [],_=>⟨rfl,by simp[ig],by simp[b3,PyData.depthAll]⟩
 |e::gs,h=>by
  obtain⟨h1,h2⟩:=h e (by simp)
  obtain⟨k1,k2,k3⟩:=Ar gs λx hx=>h x (by simp[hx])
  have s:=n5 (ent e) h1
  refine⟨?_,?_,?_⟩
  . simp only[List.map_cons,iS,Bool.and_eq_true];exact⟨h1,k1⟩
  . simp only[List.map_cons,ig,List.length_cons];omega
  . simp only[List.map_cons,b3,PyData.depthAll];omega
theorem LG {gs:Es}(hv:fV gs)(hs:Sc gs)(hl:gs.length<64):l_ (.tup (gs.map ent))=true:=by
 obtain⟨k1,k2,k3⟩:=Ar gs λe he=>Ka (hv e he) (hs e he)
 have h1:sm (.tup (gs.map ent))=true:=by simp only[sm];exact k1
 obtain⟨s1,s2,_⟩:=n5 _ h1
 have s4:=shown_le _ h1
 have s5:nd (.tup (gs.map ent))<=2000:=by simp only[nd];omega
 have s6:aC (toPy (.tup (gs.map ent))).shown.length=true:=decide_eq_true (by omega)
 have s7:(toPy (.tup (gs.map ent))).depth<=60:=by simp only[toPy,PyData.depth];omega
 simp only[l_,s1,s2,s6,decide_eq_true s7,Bool.and_true]
end Bx
namespace K06
open PySem L3 L2 RI Pd Bx Dw Dv
theorem vL (k:Nat):cw (tab (k+1) 12):=Fj
theorem SF (k:Nat):kA (tab (k+2) 13):=Fl (vL k)
theorem SG (k:Nat):nz (tab (k+1) 11):=Fm
theorem SH (k:Nat):t6 (tab (k+3) 14):=Dv.Al (vL (k+1)) (SF k)
theorem Pm (k:Nat):lh (tab (k+2) 15):=BU (vL k)
theorem Pn (k:Nat):t7 (tab (k+3) 16):=Ap (vL (k+1)) (Pm k)
theorem xy (k:Nat):Bx.gB (tab (k+2) 1):=λM=>Bx.tH M
theorem Po (k:Nat):tJ (tab (k+3) 2):=λM=>zU M
theorem M6 (k:Nat):kX (tab (k+1) 10):=BN
theorem Kb (k:Nat):gZ (tab (k+1) 8):=zR
theorem SI (k:Nat):il (tab (k+1) 9):=xl
theorem Kc (k:Nat):k_ (tab (k+3) 7):=zW (xy k) (SI (k+1))
theorem Pp (k:Nat):lb (tab (k+1) 17):=BR
theorem SK (k:Nat){d n p w c r}(M:Mn d n p w c r)(g:G)(cg:Clean g):tab (k+5) 4 [d] g=some (.lst ((aB w p c++r).map ent),g):=
 zZ (zr:=tab (k+1) 10) (xy (k+2)) (Kc (k+1)) (Kb (k+3)) (λM h=>JQ (xy (k+1)) (M6 (k+2)) M h) (λh1 h2 c=>zY (xy (k+1)) (Po k) (Kc k) (Kb (k+2)) (M6 (k+2)) h1 h2 c) M cg
theorem Pq (k:Nat){n p:Nat}{T1 T2:D}{g:G}(hp:p<=5):tab (k+5) 4 [.tup [.str "tables",.int n,.int p,T1,T2]] g=some (.lst ((aB "box" p (.int 0)).map ent),g):=xu (Kb (k+3)) hp
def MT (d:D):Prop:=(∃n p w c r,Mn d n p w c r/\1<=n)\/cF d
theorem FC (k:Nat){d:D}(h:MT d){g:G}(cg:Clean g):∃gs:Es,l_ (.tup (gs.map ent))=true/\tab (k+6) 3 [d] g=some (.tup (gs.map ent),g)/\tab (k+6) 18 [d] g=some (.tup (gs.map ent),g):=by
 have fin:∀{E:Es},fV E->Sc E->E.length<64->(∃x,Told E x/\tab (k+6) 3 [d] g=some (x,g))->(∃x,Told E x/\tab (k+6) 18 [d] g=some (x,g))->∃gs:Es,l_ (.tup (gs.map ent))=true/\tab (k+6) 3 [d] g=some (.tup (gs.map ent),g)/\tab (k+6) 18 [d] g=some (.tup (gs.map ent),g):=by
   rintro E hv hs hl ⟨x,tx,ex⟩ ⟨y,ty,ey⟩
   have:=tx.eq ty
   subst this
   obtain⟨gs,rfl,pm,_⟩:=tx
   exact⟨gs,LG (λe he=>hv e (pm.mem_iff.mp he)) (λe he=>hs e (pm.mem_iff.mp he)) (by rw[pm.length_eq];exact hl),ex,ey⟩
 rcases h with⟨n,p,w,c,r,M,hn⟩|⟨n,bx,T1,T2,rfl,hn,h1,h5,_⟩
 . have hle:=M.le
   obtain⟨wd,xs,rfl,_,_⟩:=Dw.Mn.two M
   exact fin M.vk M.sc M.len (nJ M.vk M.nd M.ct M.len (SK k M g cg)) (pG hle.1 J8 M.vk M.nd M.len M.ct cg (SD (Pp (k+4)) M hn g))
 . obtain⟨v,nd,ct,l⟩:=J7 h5
   exact fin v (hG ⟨by decide,by decide⟩) l (nJ v nd ct l (Pq k h5)) (pG hn J8 v nd l ct cg (xt hn h1 h5 g))
noncomputable def M7 (T:Nat->Fn):FS:=a_ (yn (qW (qV (rN .tuple (ab 5)))) (ay (ai kr (ag ie (aa (ab 5) af)) (ag ie (aa (ag (T 18) (aa (ab 4) af)) af))))) (aH (fC (.bl false))) aF
noncomputable def Ds (T:Nat->Fn):FS:=aj (ax (ag (T 3) (aa (ab 4) af)) (gN 5)) (M7 T)
noncomputable def M8 (T:Nat->Fn):FS:=aj (a_ (ay (ai oEq (ab 3) (fC (.int 3)))) (ax (ag (T 16) (aa (ab 2) (aa (ai aO (fC (.int 1)) (ag (T 12) (aa (ab 2) (aa (fC (.int 5)) af)))) af))) (gN 4)) aF) (Ds T)
noncomputable def Kd (T:Nat->Fn):FS:=aj (ax (ag (T 14) (aa (ab 2) (aa (ai aO (fC (.int 1)) (ag (T 12) (aa (ab 2) (aa (fC (.int 5)) af)))) af))) (gN 4)) (M8 T)
noncomputable def Ke (T:Nat->Fn):FS:=aj (ax (ag (T 11) (aa (ab 0) (aa (ab 1) af))) (gN 2)) (cK (bP (aa (fC (.int 4)) af)) (gN 3) (Kd T))
theorem Kf {T:Nat->Fn}:BI T=aj (cK (bP (aa (ag nV (aa (fC (.int 2)) (aa (ag nW (aa (fC (.int 8)) (aa (ag iz (aa (ab 0) af)) af))) af))) af)) (gN 1) (Ke T)) (aH (fC (.bl true))):=rfl
theorem LH {s:Str}{g:G}:kr (.str s) (.str s) g=some (.bl false,g):=by
 simp[kr,dr,flat,dep,au]
noncomputable abbrev S6 (ns:List Int)(j m:Nat)(o3 o4 o5:Option D):Sg:=[some (.lst (ns.map .int)),some (.int j),some (.ref m),o3,o4,o5]
theorem Pr {ns:List Int}{j m:Nat}{o3 o5:Option D}{d:D}(h:MT d){g:G}(cg:Clean g):∃p5,Ds (tab 59) (S6 ns j m o3 (some d) o5) g=some (.nx,S6 ns j m o3 (some d) p5,g):=by
 obtain⟨gs,rp,e1,e2⟩:=FC 53 h cg
 refine⟨some (.tup (gs.map ent)),?_⟩
 unfold Ds
 rw[aK (σ1:=S6 ns j m o3 (some d) (some (.tup (gs.map ent)))) (g1:=g) (by simp[e1])]
 unfold M7
 generalize gs.map ent=A at *
 have ir:ic .tuple (.tup A)=true:=rfl
 have SM:isFn (.tup A)=false:=rfl
 simp only[iR,Ij,ED,EB,EG,cQ,List.getElem?_cons_succ,List.getElem?_cons_zero,Option.bind_some,SM,Bool.false_eq_true,if_false,ir,yH,Option.map_some,Bool.not_true,A_,rS,bN,eY,cp,e2,Bg,rp,if_true,LH,Ii,Ba]
theorem Kg {ns:List Int}{j m i:Nat}{o4 o5:Option D}{g:G}{B:Int}(hB:B<2 ^ 34)(hd:Hd g m B)(cg:Clean g):wp (Kd (tab 59) (S6 ns j m (some (.int i)) o4 o5) g) λr=>r.1 = .nx/\(∃p3 p4 p5,r.2.1=S6 ns j m p3 p4 p5)/\Hd r.2.2 m (B+20000)/\Clean r.2.2:=by
 obtain⟨y,g1,e1,y0,y1,dX,f1⟩:=vL 58 m 5 g B (by omega) (by decide) (by decide) hd
 obtain⟨k,hk⟩:∃k:Nat,1+y=k:=⟨(1+y).toNat,by omega⟩
 obtain⟨⟨d,g2⟩,e2,⟨p,w,c,r,M,_⟩,hd2,f2⟩:=SH 56 m k g1 _ (by omega) (by omega) dX
 dsimp only at M hd2 f2
 have SN:=f1.trans f2
 have c2:=cg.fr SN hd2
 unfold Kd
 rw[aK (σ1:=S6 ns j m (some (.int i)) (some d) o5) (g1:=g2) (by simp[e1,hk,e2])]
 unfold M8
 have fin:∀{d:D} {g3:G} {B3:Int},MT d->Clean g3->Hd g3 m B3->B3<=B+20000->wp (Ds (tab 59) (S6 ns j m (some (.int i)) (some d) o5) g3) λr=>r.1 = .nx/\(∃p3 p4 p5,r.2.1=S6 ns j m p3 p4 p5)/\Hd r.2.2 m (B+20000)/\Clean r.2.2:=fun {d g3 B3} h c3 fX hb=>by
   obtain⟨p5,e⟩:=Pr (ns:=ns) (j:=j) (m:=m) (o3:=some (.int i)) (o5:=o5) h c3
   exact⟨_,e,rfl,⟨_,_,_,rfl⟩,fX.mono hb,c3⟩
 by_cases hi:i=3
 . obtain⟨z,g3,e3,z0,z1,fX,f3⟩:=vL 58 m 5 g2 _ (by omega) (by decide) (by decide) hd2
   obtain⟨l,hl⟩:∃l:Nat,1+z=l:=⟨(1+z).toNat,by omega⟩
   have c3:=c2.fr f3 fX
   obtain⟨⟨d4,g4⟩,e4,T4,Am,f4⟩:=Pn 56 m l g3 _ (by omega) (by omega) fX c3
   dsimp only at T4 Am f4
   have c4:=c3.fr f4 Am
   subst hi
   rw[aK (σ1:=S6 ns j m (some (.int (3:Nat))) (some d4) o5) (g1:=g4) (by simp[e3,hl,e4])]
   exact fin (.inr T4) c4 Am (by omega)
 . have iH:¬(i:Int)=3:=by omega
   rw[aK (σ1:=S6 ns j m (some (.int i)) (some d) o5) (g1:=g2) (by simp[iH])]
   exact fin (.inl ⟨_,_,_,_,_,M,by omega⟩) c2 hd2 (by omega)
theorem iter {ns:List Int}{j:Nat}(hj:j<=50){g:G}(cg:Clean g){p2 p3 p4 p5:Option D}:
   wp (Ke (tab 59) [some (.lst (ns.map .int)),some (.int j),p2,p3,p4,p5] g) λr=>r.1 = .nx/\(∃o2 o3 o4 o5,r.2.1 = [some (.lst (ns.map .int)),some (.int j),o2,o3,o4,o5])/\Clean r.2.2:=by
 unfold Ke
 obtain⟨xs,e1,dX⟩:=SG 58 ns j g (by omega)
 refine wp_seq ?_
 have c1:=cg.app dX
 simp[e1]
 refine dg ?_
 simp
 refine c7 (λi σ g'=>(∃o3 o4 o5,σ=S6 ns j g.length o3 o4 o5)/\Hd g' g.length (20000*i)/\Clean g') _ 0 _ _ ⟨⟨_,_,_,rfl⟩,by simpa using dX,c1⟩ ?_ ?_
 . rintro i x σ g' hi ⟨⟨o3,o4,o5,rfl⟩,hd,c⟩
   obtain⟨TC,rfl⟩:=cx hi
   rw[Nat.zero_add]at hd ⊢
   simp
   refine wp_mono (Kg (ns:=ns) (j:=j) (m:=g.length) (i:=i) (o4:=o4) (o5:=o5) (by omega) hd c) ?_
   rintro⟨r1,σ1,g1⟩ ⟨h1,h2,h3,h4⟩
   simp only at h1 h2 h3 h4
   subst h1
   exact⟨h2,h3.mono (by omega),h4⟩
 . rintro σ g' ⟨⟨o3,o4,o5,rfl⟩,hd,c⟩
   exact⟨rfl,⟨_,_,_,_,rfl⟩,c⟩
theorem BW (ns:List Int)(hl:ns.length<=63):∃g',tab 60 19 [.lst (ns.map .int)] []=some (.bl true,g'):=by
 have key:wp (tab 60 19 [.lst (ns.map .int)] []) λq=>q.1 = .bl true:=by
  show wp (av false 6 1 (BI (tab 59)) _ _) _
  refine n0 rfl ?_
  rw[Kf]
  simp
  refine dg ?_
  simp
  refine⟨by split<;>split<;>omega,by split<;>split<;>omega,c7 (λj σ g=>(∃o1 o2 o3 o4 o5,σ = [some (.lst (ns.map .int)),o1,o2,o3,o4,o5])/\Clean g) _ 0 _ _ ⟨⟨_,_,_,_,_,rfl⟩,λx hx=>by cases hx⟩ ?_ ?_⟩
  . rintro j d σ g hj ⟨⟨o1,o2,o3,o4,o5,rfl⟩,cg⟩
    obtain⟨So,rfl⟩:=cx hj
    have SO:j<=50:=by
     have:(if(2:Int)<(if(ns.length:Int)<8 then(ns.length:Int)else 8)then(if(ns.length:Int)<8 then(ns.length:Int)else 8)else 2)<=8:=by split<;>split<;>omega
     omega
    simp
    refine wp_mono (iter (ns:=ns) SO cg) ?_
    rintro⟨r1,σ1,g1⟩ ⟨h1,⟨p2,p3,p4,p5,h2⟩,h3⟩
    simp only at h1 h2 h3
    subst h1 h2
    exact⟨⟨_,_,_,_,_,rfl⟩,h3⟩
  . rintro σ g _
    simp[dC]
 obtain⟨⟨d,g'⟩,e,rfl⟩:=key
 exact⟨g',e⟩
end K06
namespace K06
open PySem PySem.Spec PyProof.Rows L2 L3 RI
theorem walk {l:PySem.W.OpenLaw}{q:Program}{loose:List Str}{XP:(Str->Option Value)->Heap->Prop}{YP:World->Heap->Prop}{d:DefRec}{K:Params->PySem.W.Frag}(hn:l.most=some 63)(qM:d.params.defaults = [])(Jb:d.name = "law")
  (hY:∀(w:World) (h:Heap),YP w h->(K w.params).In h)
  (F:∀(w:World) (mg:Str->Option Value) (h:Heap),(K w.params).In h->h.Ns mainGlobals mg->At (K w.params) w mg mo):
  PySem.W.WalkO q loose XP YP l.row.toRowW d [] (λf vs=>PySem.call f vs):=
 RI.Fb (i:=19) (R:=60) (x:="_law_script") hn ⟨rfl,by decide,by decide,rfl⟩ qM Jb hY F rfl rfl rfl good BW
theorem uh {K:PySem.W.Frag}{w:World}{mg:Str->Option Value}{da_NUMBERS:Addr}{dep_NUMBERS:_}{dt_NUMBERS_0:_}{db_NUMBERS_0:Addr}{dn_NUMBERS_0:_}{dsl_NUMBERS_0:Array (Option Value)}{du_NUMBERS_0_0:_}{dt_NUMBERS_1:_}{db_NUMBERS_1:Addr}{dn_NUMBERS_1:_}{dsl_NUMBERS_1:Array (Option Value)}{du_NUMBERS_1_0:_}{du_NUMBERS_1_1:_}{dt_NUMBERS_2:_}{db_NUMBERS_2:Addr}{dn_NUMBERS_2:_}{dsl_NUMBERS_2:Array (Option Value)}{du_NUMBERS_2_0:_}{du_NUMBERS_2_1:_}{du_NUMBERS_2_2:_}{dt_NUMBERS_3:_}{db_NUMBERS_3:Addr}{dn_NUMBERS_3:_}{dsl_NUMBERS_3:Array (Option Value)}{du_NUMBERS_3_0:_}{du_NUMBERS_3_1:_}{du_NUMBERS_3_2:_}{du_NUMBERS_3_3:_}{dt_NUMBERS_4:_}{db_NUMBERS_4:Addr}{dn_NUMBERS_4:_}{dsl_NUMBERS_4:Array (Option Value)}{du_NUMBERS_4_0:_}{du_NUMBERS_4_1:_}{du_NUMBERS_4_2:_}{du_NUMBERS_4_3:_}{du_NUMBERS_4_4:_}{dt_NUMBERS_5:_}{db_NUMBERS_5:Addr}{dn_NUMBERS_5:_}{dsl_NUMBERS_5:Array (Option Value)}{du_NUMBERS_5_0:_}{du_NUMBERS_5_1:_}
 (qn_NUMBERS:PySem.W.nsIn K mainGlobals "NUMBERS" = some (some (.ref da_NUMBERS)))
 (ql_NUMBERS:K.lookup da_NUMBERS=some ⟨.type "dict",none,.dict #[⟨PyData.keyHash w.params "once",.str "once" dt_NUMBERS_0,.ref db_NUMBERS_0⟩,⟨PyData.keyHash w.params "twice",.str "twice" dt_NUMBERS_1,.ref db_NUMBERS_1⟩,⟨PyData.keyHash w.params "handed",.str "handed" dt_NUMBERS_2,.ref db_NUMBERS_2⟩,⟨PyData.keyHash w.params "signs",.str "signs" dt_NUMBERS_3,.ref db_NUMBERS_3⟩,⟨PyData.keyHash w.params "shared",.str "shared" dt_NUMBERS_4,.ref db_NUMBERS_4⟩,⟨PyData.keyHash w.params "tables",.str "tables" dt_NUMBERS_5,.ref db_NUMBERS_5⟩] dep_NUMBERS,#[]⟩)
 (qv_NUMBERS_0:K.lookup db_NUMBERS_0=some ⟨.type "tuple",none,.seq #[(.str "hands" du_NUMBERS_0_0)] dn_NUMBERS_0,dsl_NUMBERS_0⟩)
 (qv_NUMBERS_1:K.lookup db_NUMBERS_1=some ⟨.type "tuple",none,.seq #[(.str "hands" du_NUMBERS_1_0),(.str "turn" du_NUMBERS_1_1)] dn_NUMBERS_1,dsl_NUMBERS_1⟩)
 (qv_NUMBERS_2:K.lookup db_NUMBERS_2=some ⟨.type "tuple",none,.seq #[(.str "hands" du_NUMBERS_2_0),(.str "turn" du_NUMBERS_2_1),(.str "moves" du_NUMBERS_2_2)] dn_NUMBERS_2,dsl_NUMBERS_2⟩)
 (qv_NUMBERS_3:K.lookup db_NUMBERS_3=some ⟨.type "tuple",none,.seq #[(.str "hands" du_NUMBERS_3_0),(.str "toggles" du_NUMBERS_3_1),(.str "shakes" du_NUMBERS_3_2),(.str "moves" du_NUMBERS_3_3)] dn_NUMBERS_3,dsl_NUMBERS_3⟩)
 (qv_NUMBERS_4:K.lookup db_NUMBERS_4=some ⟨.type "tuple",none,.seq #[(.str "hands" du_NUMBERS_4_0),(.str "places" du_NUMBERS_4_1),(.str "toggles" du_NUMBERS_4_2),(.str "shakes" du_NUMBERS_4_3),(.str "moves" du_NUMBERS_4_4)] dn_NUMBERS_4,dsl_NUMBERS_4⟩)
 (qv_NUMBERS_5:K.lookup db_NUMBERS_5=some ⟨.type "tuple",none,.seq #[(.str "hands" du_NUMBERS_5_0),(.str "boxes" du_NUMBERS_5_1)] dn_NUMBERS_5,dsl_NUMBERS_5⟩)
 (qs_NUMBERS:(da_NUMBERS == sysModules)=false):∃a,PySem.W.nsIn K mainGlobals "NUMBERS" = some (some (.ref a))/\bU w ⟨K,w,mg⟩ a iD:=⟨_,qn_NUMBERS,⟨⟨_,_,_,ql_NUMBERS,⟨rfl,rfl,rfl⟩,rfl,⟨_,_,_,rfl,⟨_,rfl⟩,rfl,⟨.ref db_NUMBERS_0,rfl,.inr ⟨_,_,_,_,_,rfl,by rfl,rfl,qv_NUMBERS_0,rfl,rfl,rfl,(show 1<=sizeLine by decide),.cons ⟨_,rfl⟩ (.nil)⟩⟩,⟨_,_,_,rfl,⟨_,rfl⟩,rfl,⟨.ref db_NUMBERS_1,rfl,.inr ⟨_,_,_,_,_,rfl,by rfl,rfl,qv_NUMBERS_1,rfl,rfl,rfl,(show 2<=sizeLine by decide),.cons ⟨_,rfl⟩ (.cons ⟨_,rfl⟩ (.nil))⟩⟩,⟨_,_,_,rfl,⟨_,rfl⟩,rfl,⟨.ref db_NUMBERS_2,rfl,.inr ⟨_,_,_,_,_,rfl,by rfl,rfl,qv_NUMBERS_2,rfl,rfl,rfl,(show 3<=sizeLine by decide),.cons ⟨_,rfl⟩ (.cons ⟨_,rfl⟩ (.cons ⟨_,rfl⟩ (.nil)))⟩⟩,⟨_,_,_,rfl,⟨_,rfl⟩,rfl,⟨.ref db_NUMBERS_3,rfl,.inr ⟨_,_,_,_,_,rfl,by rfl,rfl,qv_NUMBERS_3,rfl,rfl,rfl,(show 4<=sizeLine by decide),.cons ⟨_,rfl⟩ (.cons ⟨_,rfl⟩ (.cons ⟨_,rfl⟩ (.cons ⟨_,rfl⟩ (.nil))))⟩⟩,⟨_,_,_,rfl,⟨_,rfl⟩,rfl,⟨.ref db_NUMBERS_4,rfl,.inr ⟨_,_,_,_,_,rfl,by rfl,rfl,qv_NUMBERS_4,rfl,rfl,rfl,(show 5<=sizeLine by decide),.cons ⟨_,rfl⟩ (.cons ⟨_,rfl⟩ (.cons ⟨_,rfl⟩ (.cons ⟨_,rfl⟩ (.cons ⟨_,rfl⟩ (.nil)))))⟩⟩,⟨_,_,_,rfl,⟨_,rfl⟩,rfl,⟨.ref db_NUMBERS_5,rfl,.inr ⟨_,_,_,_,_,rfl,by rfl,rfl,qv_NUMBERS_5,rfl,rfl,rfl,(show 2<=sizeLine by decide),.cons ⟨_,rfl⟩ (.cons ⟨_,rfl⟩ (.nil))⟩⟩,rfl⟩⟩⟩⟩⟩⟩⟩,qs_NUMBERS⟩⟩
end K06
open PySem PySem.W PyProof.Rows
namespace PySem.W.Fast
theorem te3620222245212478277:1=1:=rfl
theorem tw12101790102792221090:1=1:=rfl
theorem tw14766097487470845120:1=1:=rfl
theorem tw3614619174590681670:1=1:=rfl
theorem tw10555543373201750246:1=1:=rfl
theorem tw16892207040412108800:1=1:=rfl
theorem tw3690115339029508356:1=1:=rfl
theorem tw10467221859615440278:1=1:=rfl
theorem tw12403085217508158340:1=1:=rfl
theorem tw4881786980130537095:1=1:=rfl
theorem tw3166052417773120639:1=1:=rfl
theorem tw9499588295410639258:1=1:=rfl
theorem tw14995291503233800323:1=1:=rfl
theorem tw12992929568172942546:1=1:=rfl
theorem tw17956064560221192718:1=1:=rfl
theorem tw11034241817751955342:1=1:=rfl
theorem tw521238600986303693:1=1:=rfl
theorem tw18288827781823666795:1=1:=rfl
theorem tw9156665480455306595:1=1:=rfl
theorem tw12015299910016280871:1=1:=rfl
theorem tw8029496026574333377:1=1:=rfl
theorem tw10912027088145905429:1=1:=rfl
theorem tw1980632175475904201:1=1:=rfl
theorem tw10739273186781293297:1=1:=rfl
theorem tw6900045391465293256:1=1:=rfl
theorem tw7015503590524633624:1=1:=rfl
theorem tw10346879208677775693:1=1:=rfl
theorem tw7489316142636148349:1=1:=rfl
theorem tw711694751952395161:1=1:=rfl
theorem tw1535322233901504629:1=1:=rfl
theorem tw17532105571777121892:1=1:=rfl
theorem tw5188467880319669667:1=1:=rfl
theorem tw1024890151391397415:1=1:=rfl
theorem tw2033758688740520586:1=1:=rfl
theorem tw4108662069252860840:1=1:=rfl
theorem tw857287331358012117:1=1:=rfl
theorem tw2274312886772361857:1=1:=rfl
theorem tw16636131594676265783:1=1:=rfl
theorem tw16716881220237661893:1=1:=rfl
theorem tw6020751815171768094:1=1:=rfl
theorem tw17453585791691605827:1=1:=rfl
theorem tw5515561483343583412:1=1:=rfl
theorem tw16300999373714711988:1=1:=rfl
theorem tw10255107301476836151:1=1:=rfl
theorem tw1002977741417737624:1=1:=rfl
theorem tw4497116163696161456:1=1:=rfl
theorem tw776137005336409107:1=1:=rfl
theorem tw4442999470233990107:1=1:=rfl
theorem tw2625266149618809677:1=1:=rfl
theorem tw13967334706455459268:1=1:=rfl
theorem tw15758858049131920978:1=1:=rfl
theorem tw11539970009414704115:1=1:=rfl
theorem tw7912689579481626840:1=1:=rfl
theorem tw1969521238509982334:1=1:=rfl
theorem tw13088727610823555858:1=1:=rfl
theorem tw9105893797142130873:1=1:=rfl
theorem tw6157510904695155478:1=1:=rfl
theorem tw17273620036549921921:1=1:=rfl
theorem tw1554717966683784493:1=1:=rfl
theorem tw12669075802705584286:1=1:=rfl
theorem tw17857165727493873521:1=1:=rfl
theorem tw15489611530979993182:1=1:=rfl
theorem tw9238363966640838495:1=1:=rfl
theorem tw16236341053195360129:1=1:=rfl
theorem tw4282093199468945171:1=1:=rfl
theorem tw12753708707810039056:1=1:=rfl
theorem tw5566161760997006182:1=1:=rfl
theorem tw7036842562484799992:1=1:=rfl
theorem tw7250909025772140413:1=1:=rfl
theorem tw6829818534259621995:1=1:=rfl
theorem tw223227275163886766:1=1:=rfl
theorem tw10521998724911676631:1=1:=rfl
theorem tw12717044334104616448:1=1:=rfl
theorem tw7402356020420609556:1=1:=rfl
theorem tw7561588893683142573:1=1:=rfl
theorem tw6188432228443778866:1=1:=rfl
theorem tw5873487536329288922:1=1:=rfl
theorem tw12381951119044230930:1=1:=rfl
theorem tw1125295227986326773:1=1:=rfl
theorem tw8082111197225124739:1=1:=rfl
theorem tw12499544418094584097:1=1:=rfl
theorem tw7027426461210132958:1=1:=rfl
theorem tw17768360710752331632:1=1:=rfl
theorem tw16584783726179825950:1=1:=rfl
theorem tw1733674199172629341:1=1:=rfl
theorem tw17009968602760208576:1=1:=rfl
theorem tw17558808039229275464:1=1:=rfl
theorem tw4141610189268644756:1=1:=rfl
theorem tw3411917391417554457:1=1:=rfl
theorem tw8011092667602574574:1=1:=rfl
theorem tw15915508633326671173:1=1:=rfl
theorem tw8050448011448879119:1=1:=rfl
theorem tw17627214897881859129:1=1:=rfl
theorem tw6790089855650142760:1=1:=rfl
theorem tw13401471377097855260:1=1:=rfl
theorem tw3154689853280711504:1=1:=rfl
theorem tw16867177107297856992:1=1:=rfl
theorem tw10885982506936383947:1=1:=rfl
end PySem.W.Fast
set_option maxRecDepth 100000 in
set_option maxHeartbeats 0 in
theorem PySem.Challenge.cw_wholeglance_k06_first_boxes_holds : PySem.Challenge.rw_wholeglance_k06_first_boxes.Holds := by
  w_on; o_law; k_head; (case hw => w_witness2)
  k_fill
  refine K06.walk (l := PySem.Challenge.rw_wholeglance_k06_first_boxes) rfl rfl rfl (fun w h Y => by first | exact PySem.W.kIn_of Y | exact PySem.W.km_in_of Y) ?F
  case F =>
    intro w mg h KX G
    refine' ⟨_, _, (RI.bD.cons (nm := "number_of") (ps := ["manner", "name"]) (st := K06.top 2) ?a0 ?l0 ?e0 ?k0 (RI.nh (fun _ _ => rfl))
    (RI.bD.cons (nm := "hands_of") (ps := ["manner"]) (st := K06.top 3) ?a1 ?l1 ?e1 ?k1 (RI.lL (fun _ => rfl))
    (RI.bD.cons (nm := "places_of") (ps := ["manner"]) (st := K06.top 4) ?a2 ?l2 ?e2 ?k2 (RI.lL (fun _ => rfl))
    (RI.bD.cons (nm := "first_boxes") (ps := ["manner"]) (st := K06.top 6) ?a3 ?l3 ?e3 ?k3 (RI.lL (fun _ => rfl))
    (RI.bD.cons (nm := "listed_boxes") (ps := ["manner"]) (st := K06.top 7) ?a4 ?l4 ?e4 ?k4 (RI.lL (fun _ => rfl))
    (RI.bD.cons (nm := "shared_boxes") (ps := ["manner"]) (st := K06.top 8) ?a5 ?l5 ?e5 ?k5 (RI.lL (fun _ => rfl))
    (RI.bD.cons (nm := "own_content") (ps := ["manner"]) (st := K06.top 9) ?a6 ?l6 ?e6 ?k6 (RI.lL (fun _ => rfl))
    (RI.bD.cons (nm := "shake_boxes") (ps := ["manner", "words"]) (st := K06.top 10) ?a7 ?l7 ?e7 ?k7 (RI.nh (fun _ _ => rfl))
    (RI.bD.cons (nm := "single_boxes") (ps := ["word", "count", "content"]) (st := K06.top 11) ?a8 ?l8 ?e8 ?k8 (RI.Rf (fun _ _ _ => rfl))
    (RI.bD.cons (nm := "crossed_boxes") (ps := ["word", "hands"]) (st := K06.top 12) ?a9 ?l9 ?e9 ?k9 (RI.nh (fun _ _ => rfl))
    (RI.bD.cons (nm := "zeros") (ps := ["count"]) (st := K06.top 13) ?a10 ?l10 ?e10 ?k10 (RI.lL (fun _ => rfl))
    (RI.bD.cons (nm := "_law_hand") (ps := ["_law_script", "_law_k"]) (st := K06.top 15) ?a11 ?l11 ?e11 ?k11 (RI.nh (fun _ _ => rfl))
    (RI.bD.cons (nm := "_law_take") (ps := ["_law_hand_here", "_law_many"]) (st := K06.top 16) ?a12 ?l12 ?e12 ?k12 (RI.nh (fun _ _ => rfl))
    (RI.bD.cons (nm := "_law_pick") (ps := ["_law_hand_here", "_law_some"]) (st := K06.top 17) ?a13 ?l13 ?e13 ?k13 (RI.nh (fun _ _ => rfl))
    (RI.bD.cons (nm := "_law_manner") (ps := ["_law_hand_here", "_law_hands"]) (st := K06.top 18) ?a14 ?l14 ?e14 ?k14 (RI.nh (fun _ _ => rfl))
    (RI.bD.cons (nm := "_law_table") (ps := ["_law_hand_here", "_law_boxes", "_law_hands", "_law_look"]) (st := K06.top 19) ?a15 ?l15 ?e15 ?k15 (RI.Rg (fun _ _ _ _ => rfl))
    (RI.bD.cons (nm := "_law_tables") (ps := ["_law_hand_here", "_law_hands"]) (st := K06.top 20) ?a16 ?l16 ?e16 ?k16 (RI.nh (fun _ _ => rfl))
    (RI.bD.cons (nm := "_law_pairs") (ps := ["_law_word", "_law_hands"]) (st := K06.top 21) ?a17 ?l17 ?e17 ?k17 (RI.nh (fun _ _ => rfl))
    (RI.bD.cons (nm := "_law_due") (ps := ["_law_manner_here"]) (st := K06.top 22) ?a18 ?l18 ?e18 ?k18 (RI.lL (fun _ => rfl))
    (RI.bD.cons (nm := "law") (ps := ["_law_script"]) (st := K06.top 23) ?a19 ?l19 ?e19 ?k19 (RI.lL (fun _ => rfl))
    RI.bD.nil)))))))))))))))))))),
    (RI.bc ?z_len (RI.bc ?z_max (RI.bc ?z_min (RI.bc ?z_int (RI.bc ?z_tuple (RI.bc ?z_repr (RI.bc ?z_sorted (RI.bc ?z_dict (RI.bc ?z_set (RI.bc ?z_range (RI.bc ?z_isinstance RI.bn))))))))))),
    RI.Mx, (RI.cc (K06.uh ?qn_NUMBERS ?ql_NUMBERS ?qv_NUMBERS_0 ?qv_NUMBERS_1 ?qv_NUMBERS_2 ?qv_NUMBERS_3 ?qv_NUMBERS_4 ?qv_NUMBERS_5 ?qs_NUMBERS) RI.Mx)⟩
    all_goals try first | k_is | rfl
